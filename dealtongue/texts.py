"""Agreements and conditions, written and read."""

from dealtongue.agreements import is_agreement
from dealtongue.conditions import is_condition
from dealtongue.errors import NoCondition, NoText
from dealtongue.reading import DEEPEST_WRITTEN, Reader, take_clause, take_condition, take_names, take_numbers, take_word
from dealtongue.refusals import refuse_no_agreement
from dealtongue.writing import agreement_rows, condition_text

# Rows stand in this order; there are any number of rows of words and of clauses, at most one of each of the others.
RANKS = {"parties": 0, "rest": 1, "holiday": 2, "word": 3, "duty": 4, "fee": 4, "free": 4, "end": 4}
FIRST_RANK_OF_MANY = 3


def show_agreement(agreement):
    """Writes an agreement."""
    refuse_no_agreement(agreement)
    return "\n".join(agreement_rows(agreement))


def show_condition(condition):
    """Writes a condition, whatever it names."""
    if not is_condition(condition):
        raise NoCondition("a condition is wanted")
    return condition_text(condition)


def read_agreement(text):
    """Reads an agreement."""
    if not isinstance(text, str):
        raise NoText(0)
    rows = text.split("\n")
    parties = ()
    weekdays = ()
    holidays = ()
    words = []
    clauses = []
    for kind, what in read_rows(rows):
        if kind == "parties":
            parties = what
        elif kind == "rest":
            weekdays = what
        elif kind == "holiday":
            holidays = what
        elif kind == "word":
            words.append(what)
        else:
            clauses.append(what)
    agreement = (parties, (weekdays, holidays), tuple(words), tuple(clauses))
    if not is_agreement(agreement):
        raise NoText(len(rows))
    return agreement


def read_condition(text):
    """Reads a condition, whatever it names."""
    if not isinstance(text, str):
        raise NoText(0)
    reader = Reader(text, 0)
    condition = take_condition(reader, DEEPEST_WRITTEN)
    reader.finish()
    if not is_condition(condition):
        raise NoText(0)
    return condition


def read_rows(rows):
    """Lists what is read of each row: pairs of its kind, its first word, and what it tells."""
    told = []
    rank = None
    for at, row in enumerate(rows):
        reader = Reader(row, at)
        kind = reader.take()
        if not may_follow(RANKS.get(kind), rank):
            raise NoText(at)
        rank = RANKS[kind]
        told.append((kind, read_row(reader, kind)))
        reader.finish()
    return told


def may_follow(rank, ahead):
    """Tells whether a row of this rank may stand behind one of the rank ahead (None: ahead of all rows)."""
    if rank is None:
        return False
    if ahead is None:
        return rank == 0
    return rank > ahead or (rank == ahead and rank >= FIRST_RANK_OF_MANY)


def read_row(reader, kind):
    """Reads what stands in a row behind its first word."""
    if kind == "parties":
        return take_names(reader)
    if kind in ("rest", "holiday"):
        return take_numbers(reader)
    if kind == "word":
        return take_word(reader)
    return take_clause(reader, kind)
