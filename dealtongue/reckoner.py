"""The plain reckoner: what an agreement and letters make, day by day."""

from dealtongue.agreements import are_there
from dealtongue.conditions import is_condition, named_by_condition
from dealtongue.deals import Deal
from dealtongue.errors import NoCondition
from dealtongue.letters import letters_by_day
from dealtongue.phases import run_day
from dealtongue.refusals import refuse_to_reckon
from dealtongue.standings import Standing
from dealtongue.truths import is_so, words_that_may

COINS = ("coins",)


class State:
    """How all stands behind the evening of a day. What stands behind it is never changed again."""

    def __init__(self, deal, standing):
        self.day = standing.day
        self.ended = standing.ended
        self.deal = deal
        self.standing = standing

    def __eq__(self, other):
        if not isinstance(other, State):
            return False
        return (
            self.day == other.day
            and self.ended == other.ended
            and self.things() == other.things()
            and self.broken() == other.broken()
            and self.fees() == other.fees()
            and self.owed() == other.owed()
            and self.may() == other.may()
            and self.had() == other.had()
            and self.put_by() == other.put_by()
        )

    def things(self):
        """Lists (duty, number, brought, due, how, on, left) of all things."""
        return [
            (thing.duty, thing.number, thing.brought, thing.due, thing.how, thing.on, thing.left)
            for thing in self.things_in_order()
        ]

    def broken(self):
        """Lists (duty, number, day) of the things that are broken."""
        things = self.things_in_order()
        return [(thing.duty, thing.number, thing.late_on) for thing in things if thing.late_on is not None]

    def fees(self):
        """Lists (fee, number, grown, paid) of the fees that have grown."""
        told = []
        for fee in self.deal.fee_clauses:
            growths = self.standing.growths[fee.name]
            for number in sorted(growths):
                growth = growths[number]
                told.append((fee.name, number, growth.grown, growth.grown - growth.left))
        return told

    def owed(self):
        """Lists, rising, (who, whom, what, due, left) of open and late things, and of fees that aren't paid whole."""
        told = []
        for duty in list(self.deal.duties.values()):
            what = COINS if duty.amount is not None else duty.words
            for thing in self.standing.pending[duty.name]:
                told.append((duty.who, duty.whom, what, thing.due, thing.left))
        for fee in self.deal.fee_clauses:
            for growth in list(self.standing.unpaid[fee.name].values()):
                told.append((fee.who, fee.whom, COINS, growth.due, growth.left))
        return sorted(told)

    def may(self):
        """Lists, rising, the words that would count now."""
        return words_that_may(self.deal, self.standing)

    def had(self):
        """Lists, rising, the words of which a letter counted."""
        return sorted(self.standing.heard)

    def put_by(self):
        """Tells a dict from (sender, payee) to the coins that are put by for them."""
        purses = self.standing.purses
        return {pair: purses[pair] for pair in purses}

    def holds(self, condition):
        """Tells whether a condition of the agreement holds."""
        if not is_condition_in(condition, self.deal):
            raise NoCondition("a condition of this agreement is wanted")
        return is_so(condition, self.standing)

    def things_in_order(self):
        """Lists the things by (place, number)."""
        found = []
        for duty in self.deal.duties:
            found.extend(self.standing.all_things[duty])
        return found


def reckoned(agreement, letters, day):
    """Tells the State behind the evening of a day."""
    refuse_to_reckon(agreement, letters, day)
    deal = Deal(agreement)
    standing = fresh_standing(deal)
    by_day = letters_by_day(letters)
    for today in range(day + 1):
        run_day(deal, standing, today, by_day.get(today, []))
    return State(deal, standing)


def fresh_standing(deal):
    """Tells how things stand ahead of the morning of day 0."""
    return Standing(list(deal.duties), [fee.name for fee in deal.fee_clauses])


def is_condition_in(thing, deal):
    """Tells whether a thing is a condition of this agreement."""
    return is_condition(thing) and are_there(named_by_condition(thing), deal.words, deal.duties)
