"""The plain reckoner: what an agreement and letters make of each day, told as States."""

from dealtongue.agreements import are_there
from dealtongue.conditions import is_condition, named_by_condition
from dealtongue.courses import course_to
from dealtongue.errors import NoCondition
from dealtongue.refusals import refuse_to_reckon
from dealtongue.truths import is_so, words_that_may

COINS = ("coins",)


class State:
    """How all stands behind the evening of a day. What stands behind it is never changed again."""

    def __init__(self, course):
        self.deal = course.deal
        self.standing = course.standing
        self.day = course.standing.day
        self.ended = course.standing.ended

    def __eq__(self, other):
        if not isinstance(other, State):
            return False
        return (
            self.day == other.day
            and self.ended == other.ended
            and self.things() == other.things()
            and self.broken() == other.broken()
            and self.fees() == other.fees()
            and self.owed() == other.owed()
            and self.may() == other.may()
            and self.had() == other.had()
            and self.put_by() == other.put_by()
        )

    def things(self):
        """Lists (duty, number, brought, due, how, on, left) of all things."""
        return [
            (thing.duty, thing.number, thing.brought, thing.due, thing.how, thing.on, thing.left)
            for thing in self.things_in_order()
        ]

    def broken(self):
        """Lists (duty, number, day) of the things that are broken."""
        things = self.things_in_order()
        return [(thing.duty, thing.number, thing.late_on) for thing in things if thing.late_on is not None]

    def fees(self):
        """Lists (fee, number, grown, paid) of the fees that have grown."""
        growths = [self.standing.growths[key] for key in keys_in_order(self.standing.growths, self.deal.fee_places)]
        return [(growth.fee, growth.number, growth.grown, growth.grown - growth.left) for growth in growths]

    def owed(self):
        """Lists, rising, (who, whom, what, due, left) of open and late things, and of fees that aren't paid whole."""
        told = []
        for duty in list(self.deal.duties.values()):
            what = COINS if duty.amount is not None else duty.words
            for thing in self.standing.pending[duty.name]:
                told.append((duty.who, duty.whom, what, thing.due, thing.left))
        for growth in list(self.standing.unpaid.values()):
            told.append((*growth.pair, COINS, growth.due, growth.left))
        return sorted(told)

    def may(self):
        """Lists, rising, the words that would count now."""
        return words_that_may(self.deal, self.standing)

    def had(self):
        """Lists, rising, the words of which a letter counted."""
        return sorted(self.standing.heard)

    def put_by(self):
        """Tells a dict from (sender, payee) to the coins that are put by for them."""
        purses = self.standing.purses
        return {pair: purses[pair] for pair in purses}

    def holds(self, condition):
        """Tells whether a condition of the agreement holds."""
        refuse_no_condition(condition, self.deal)
        return is_so(condition, self.standing)

    def things_in_order(self):
        """Lists the things by (place, number), those of duties that the text hasn't behind, by their names."""
        named = self.standing.all_things
        left_out = sorted([name for name in named if name not in self.deal.duties])
        found = []
        for name in list(self.deal.duties) + left_out:
            found.extend(named[name])
        return found


def reckoned(agreement, letters, day):
    """Tells the State behind the evening of a day."""
    refuse_to_reckon(agreement, letters, day)
    return state_behind([(0, agreement)], letters, day)


def state_behind(versions, letters, day):
    """Tells the State of versions behind the evening of a day."""
    return State(course_to(versions, letters, day))


def keys_in_order(growths, places):
    """Lists the keys (fee, duty, number) by (place, number), those of fees that the text hasn't behind."""
    there = sorted([(places[key[:2]], key[2], key) for key in growths if key[:2] in places])
    return [row[2] for row in there] + sorted([key for key in growths if key[:2] not in places])


def is_condition_in(thing, deal):
    """Tells whether a thing is a condition of this agreement."""
    return is_condition(thing) and are_there(named_by_condition(thing), deal.words, deal.duties)


def refuse_no_condition(thing, deal):
    """Refuses what is no condition of this agreement."""
    if not is_condition_in(thing, deal):
        raise NoCondition("a condition of this agreement is wanted")
