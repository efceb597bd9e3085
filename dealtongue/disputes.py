"""Letters in dispute: what is told for each choice of those that count."""

from dealtongue.days import refuse_no_day
from dealtongue.errors import NoLetterThere, NoOpen
from dealtongue.kinds import is_number, is_tuple_of
from dealtongue.reckoner import state_behind
from dealtongue.refusals import refuse_no_letters
from dealtongue.versions import refuse_no_versions

MOST_OPEN = 4


def readings(versions, letters, open_ones, day):
    """Lists (those that count among the open ones, State), one for each choice, rising."""
    refuse_to_read(versions, letters, open_ones, day)
    return each_reading(versions, letters, open_ones, day)


def asked(versions, letters, open_ones, day, condition):
    """Tells whether a condition holds in all readings: "yes", in none: "no", else "open"."""
    refuse_to_read(versions, letters, open_ones, day)
    return answer_of(each_reading(versions, letters, open_ones, day), condition)


def are_open(thing):
    """Tells whether a thing is a list of open ones, whatever letters there are."""
    if not isinstance(thing, list) or len(thing) > MOST_OPEN:
        return False
    if not all([is_tuple_of(part, 2, 2) and is_number(part[0]) and is_number(part[1]) for part in thing]):
        return False
    return len(set(thing)) == len(thing)


def refuse_to_read(versions, letters, open_ones, day):
    """Refuses what can't be read, in the order versions, letters, open ones, those that aren't there, day."""
    refuse_no_versions(versions)
    refuse_no_letters(letters)
    if not are_open(open_ones):
        raise NoOpen("a list of open letters is wanted")
    there = [letter[:2] for letter in letters]
    for said, turn in open_ones:
        if (said, turn) not in there:
            raise NoLetterThere(said, turn)
    refuse_no_day(day)


def each_reading(versions, letters, open_ones, day):
    """Lists (those that count among the open ones, State), one for each choice, rising."""
    told = []
    for chosen in sorted(choices_of(sorted(open_ones))):
        out = [one for one in open_ones if one not in chosen]
        counting = [letter for letter in letters if letter[:2] not in out]
        told.append((chosen, state_behind(versions, counting, day)))
    return told


def choices_of(things):
    """Lists the tuples of some of the things, in their order: none, each one, and so on."""
    found = [()]
    for thing in things:
        found = found + [chosen + (thing,) for chosen in found]
    return found


def answer_of(told, condition):
    """Tells whether a condition holds in all of the readings, in none, or in some."""
    truths = [state.holds(condition) for _, state in told]
    if all(truths):
        return "yes"
    return "open" if any(truths) else "no"
