"""Letters, and the lists of them that are handed in."""

from dealtongue.clauses import MOST_COINS
from dealtongue.kinds import is_day, is_number_within, is_small_text, is_tuple_of

LAST_TURN = 99
MOST_LETTERS = 60


def is_letter(thing):
    """Tells whether a thing is a letter: (said, turn, sender, word, coins)."""
    if not is_tuple_of(thing, 5, 5):
        return False
    said, turn, sender, word, coins = thing
    if not is_day(said) or not is_number_within(turn, 1, LAST_TURN):
        return False
    return is_small_text(sender) and is_small_text(word) and is_number_within(coins, 0, MOST_COINS)


def are_letters(thing):
    """Tells whether a thing is a list of letters, no two of the same said and turn."""
    if not isinstance(thing, list) or len(thing) > MOST_LETTERS:
        return False
    if not all([is_letter(part) for part in thing]):
        return False
    return len({letter[:2] for letter in thing}) == len(thing)


def letters_by_day(letters):
    """Tells a dict from each day on which letters were said to these, in the order of their turns."""
    by_day = {}
    for letter in sorted(letters):
        by_day.setdefault(letter[0], []).append(letter)
    return by_day
