"""The plain kinds that all else is made of: whole numbers, days, names, tuples."""

LAST_DAY = 3000
LONGEST_NAME = 8
LANGUAGE_WORDS = (
    "parties", "rest", "holiday", "word", "by", "to", "while", "duty", "free", "fee", "end", "must",
    "pay", "send", "within", "days", "work", "after", "day", "every", "letter", "done", "broken",
    "ended", "had", "owes", "before", "not", "and", "or", "at", "most", "for", "stays", "coins",
)


def is_number(thing):
    """Tells whether a thing is a whole number."""
    # True and False are ints to Python, but no numbers here.
    return isinstance(thing, int) and not isinstance(thing, bool)


def is_number_within(thing, least, greatest):
    """Tells whether a thing is a whole number from the least to the greatest."""
    return is_number(thing) and least <= thing <= greatest


def is_day(thing):
    """Tells whether a thing is a day."""
    return is_number_within(thing, 0, LAST_DAY)


def is_small_text(thing):
    """Tells whether a thing is a text of one to eight small letters."""
    if not isinstance(thing, str) or not 1 <= len(thing) <= LONGEST_NAME:
        return False
    return all(["a" <= sign <= "z" for sign in thing])


def is_name(thing):
    """Tells whether a thing is a name."""
    return is_small_text(thing) and thing not in LANGUAGE_WORDS


def is_tuple_of(thing, least, most):
    """Tells whether a thing is a tuple of at least so many parts and at most so many."""
    return isinstance(thing, tuple) and least <= len(thing) <= most


def are_unlike_names(thing, least, most):
    """Tells whether a thing is a tuple of so many names, no two the same."""
    if not is_tuple_of(thing, least, most) or not all([is_name(part) for part in thing]):
        return False
    return len(set(thing)) == len(thing)


def are_rising_numbers(thing, most, greatest):
    """Tells whether a thing is a rising tuple of at most so many unlike numbers, from 0 to the greatest."""
    if not is_tuple_of(thing, 0, most):
        return False
    # The order is asked last: what is no number may not be compared.
    if not all([is_number_within(part, 0, greatest) for part in thing]):
        return False
    return all([one < other for one, other in zip(thing, thing[1:])])
