"""Where coins went: the ledger, and what each party was paid less what it paid."""

from dealtongue.courses import course_to
from dealtongue.payments import PUT_BY
from dealtongue.refusals import refuse_to_reckon


def ledger(agreement, letters, day):
    """Lists (day, source, sender, payee, goal, coins) of all coins that were led somewhere, in their order."""
    refuse_to_reckon(agreement, letters, day)
    return rows_by(agreement, letters, day)


def balances(agreement, letters, day):
    """Tells a dict from each party to the coins that it was paid less those that it paid."""
    refuse_to_reckon(agreement, letters, day)
    told = {party: 0 for party in agreement[0]}
    for _, source, sender, payee, _, coins in rows_by(agreement, letters, day):
        # What was put by was paid already, by its letter.
        if source != PUT_BY:
            told[sender] -= coins
            told[payee] += coins
    return told


def rows_by(agreement, letters, day):
    """Lists the rows of the ledger by the evening of a day."""
    return list(course_to([(0, agreement)], letters, day).standing.rows)
