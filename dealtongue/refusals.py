"""Refusals that many functions have in common."""

from dealtongue.agreements import first_wrong
from dealtongue.days import refuse_no_day
from dealtongue.errors import NoAgreement, NoLetters
from dealtongue.letters import are_letters


def refuse_no_agreement(thing):
    """Refuses what is no agreement."""
    place = first_wrong(thing)
    if place is not None:
        raise NoAgreement(place)


def refuse_no_letters(thing):
    """Refuses what is no list of letters."""
    if not are_letters(thing):
        raise NoLetters("a list of letters is wanted")


def refuse_to_reckon(agreement, letters, day):
    """Refuses what can't be reckoned: what is no agreement, then no list of letters, then no day."""
    refuse_no_agreement(agreement)
    refuse_no_letters(letters)
    refuse_no_day(day)
