"""Conditions by their form, and the words and duties that they name."""

from dealtongue.kinds import is_day, is_name, is_tuple_of

DEEPEST = 4
LEAST_PARTS = 2
MOST_PARTS = 4


def is_condition(thing):
    """Tells whether a thing is a condition by its form, whatever it names."""
    return is_condition_within(thing, DEEPEST)


def is_condition_or_none(thing):
    """Tells whether a thing is a condition by its form, or is left out."""
    return thing is None or is_condition(thing)


def is_condition_within(thing, depth):
    """Tells whether a thing is a condition of at most so many within one another."""
    if depth == 0 or not is_tuple_of(thing, 1, 1 + MOST_PARTS):
        return False
    word = thing[0]
    if word in ("all", "any"):
        return len(thing) > LEAST_PARTS and are_conditions_within(thing[1:], depth - 1)
    if word == "ended":
        return len(thing) == 1
    if len(thing) != 2:
        return False
    if word == "not":
        return is_condition_within(thing[1], depth - 1)
    if word == "before":
        return is_day(thing[1])
    return word in ("had", "owes", "broken") and is_name(thing[1])


def are_conditions_within(things, depth):
    """Tells whether all of the things are conditions of at most so many within one another."""
    return all([is_condition_within(thing, depth) for thing in things])


def named_by_condition(condition):
    """Lists what a condition, or None, names: pairs of "word" or "duty" and the name."""
    if condition is None:
        return []
    word = condition[0]
    if word == "had":
        return [("word", condition[1])]
    if word in ("owes", "broken"):
        return [("duty", condition[1])]
    found = []
    if word in ("not", "all", "any"):
        for part in condition[1:]:
            found.extend(named_by_condition(part))
    return found


def days_in_condition(condition):
    """Lists the days that a condition, or None, names."""
    if condition is None:
        return []
    if condition[0] == "before":
        return [condition[1]]
    found = []
    if condition[0] in ("not", "all", "any"):
        for part in condition[1:]:
            found.extend(days_in_condition(part))
    return found
