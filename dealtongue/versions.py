"""Texts behind one another: each in force from a day on, carrying on what was ahead."""

from dealtongue.agreements import is_agreement
from dealtongue.courses import Course
from dealtongue.days import refuse_no_day
from dealtongue.errors import NoVersions
from dealtongue.kinds import is_day, is_tuple_of
from dealtongue.reckoner import State, state_behind
from dealtongue.refusals import refuse_no_letters

MOST_VERSIONS = 6


def reckoned_by(versions, letters, day):
    """Tells the State of versions behind the evening of a day."""
    refuse_to_reckon_by(versions, letters, day)
    return state_behind(versions, letters, day)


def reached_by(versions, letters, day, *, place):
    """Lists the days, to the last one, on which the State is another one than without the version at a place."""
    refuse_to_reckon_by(versions, letters, day)
    others = versions[:place] + versions[place + 1:]
    return days_apart(Course(versions, letters), Course(others, letters), day)


def are_versions(thing):
    """Tells whether a thing is a list of versions."""
    if not isinstance(thing, list) or not 1 <= len(thing) <= MOST_VERSIONS:
        return False
    if not all([is_version(part) for part in thing]):
        return False
    firsts = [first for first, _ in thing]
    if firsts[0] != 0 or not all([one < other for one, other in zip(firsts, firsts[1:])]):
        return False
    return all([agreement[0] == thing[0][1][0] for _, agreement in thing])


def is_version(thing):
    """Tells whether a thing is a pair of a day and an agreement."""
    return is_tuple_of(thing, 2, 2) and is_day(thing[0]) and is_agreement(thing[1])


def refuse_no_versions(thing):
    """Refuses what is no list of versions."""
    if not are_versions(thing):
        raise NoVersions("a list of versions is wanted")


def refuse_to_reckon_by(versions, letters, day):
    """Refuses what can't be reckoned: what is no list of versions, then no list of letters, then no day."""
    refuse_no_versions(versions)
    refuse_no_letters(letters)
    refuse_no_day(day)


def days_apart(one, other, last):
    """Lists the days to the last one on which two courses, both at their beginning, have different States."""
    found = []
    # Day 0 is looked at in any case: behind it a day is like the one ahead until something may be told otherwise.
    stop = 0
    while stop <= last:
        one.run_to(stop)
        other.run_to(stop)
        apart = State(one) != State(other)
        over = stop
        stop = min(one.next_told_otherwise(last), other.next_told_otherwise(last))
        if apart:
            found.extend(list(range(over, stop)))
    return found
