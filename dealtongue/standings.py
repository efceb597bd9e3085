"""How things stand at one moment of the reckoning: all that is carried on from phase to phase.

Beside what is told of a State it keeps what happened by what, letter by letter and coin by coin.
"""

OPEN = "open"
LATE = "late"
DONE = "done"
FREED = "freed"


class Thing:
    """A duty as it was brought one time: `left` are the coins that aren't paid, `late_on` the day it was broken.

    `brought_by` and `closed_by` are the happenings by which it was brought, and done or freed; `clause` is the name
    of the clause that freed it.
    """

    def __init__(self, duty, number, brought, due, left, brought_by):
        self.duty = duty
        self.number = number
        self.brought = brought
        self.due = due
        self.left = left
        self.brought_by = brought_by
        self.how = OPEN
        self.on = brought
        self.late_on = None
        self.closed_by = None
        self.clause = None

    def copied(self):
        """Tells another thing that is just like this one."""
        other = Thing(self.duty, self.number, self.brought, self.due, self.left, self.brought_by)
        other.how = self.how
        other.on = self.on
        other.late_on = self.late_on
        other.closed_by = self.closed_by
        other.clause = self.clause
        return other

    def goal(self):
        """Tells where coins go that are led to this thing."""
        return ("thing", self.duty, self.number)


class Growth:
    """What a fee for a duty has grown for the thing of a number: `due` is that of the thing.

    `pair` are the two whose debt it is, `left` what isn't paid of it.
    """

    def __init__(self, fee, duty, number, due, pair):
        self.fee = fee
        self.duty = duty
        self.number = number
        self.due = due
        self.pair = pair
        self.grown = 0
        self.left = 0

    def copied(self):
        """Tells another one that is just like this one."""
        other = Growth(self.fee, self.duty, self.number, self.due, self.pair)
        other.grown = self.grown
        other.left = self.left
        return other

    def goal(self):
        """Tells where coins go that are led to this one."""
        return ("fee", self.fee, self.number)


class Standing:
    """How things stand: things by the names of their duties, what fees have grown by (fee, duty, number)."""

    def __init__(self):
        self.day = 0
        self.ended = None
        # The happening by which it ended, and the name of the clause.
        self.ended_by = None
        self.ended_clause = None
        # The letters that counted, in their order, and their words.
        self.counted = []
        self.heard = {}
        self.all_things = {}
        # Those that are open or late, and below what isn't paid: so that the others needn't be gone through each day.
        self.pending = {}
        self.breached = {}
        self.growths = {}
        self.unpaid = {}
        self.purses = {}
        # Where coins went: rows of the ledger.
        self.rows = []
        # Set by all that is told of a State, but for the day.
        self.turned = False

    def make_room(self, duties):
        """Makes room for the things of duties of these names."""
        for duty in duties:
            self.all_things.setdefault(duty, [])
            self.pending.setdefault(duty, [])

    def copied(self):
        """Tells another standing that is just like this one, and shares nothing with it that changes."""
        other = Standing()
        other.day = self.day
        other.ended = self.ended
        other.ended_by = self.ended_by
        other.ended_clause = self.ended_clause
        other.counted = list(self.counted)
        other.heard = dict(self.heard)
        for duty in list(self.all_things):
            things = [thing.copied() for thing in self.all_things[duty]]
            other.all_things[duty] = things
            other.pending[duty] = [thing for thing in things if thing.how in (OPEN, LATE)]
        other.breached = dict(self.breached)
        other.growths = {key: self.growths[key].copied() for key in self.growths}
        other.unpaid = {key: other.growths[key] for key in self.unpaid}
        other.purses = {pair: self.purses[pair] for pair in self.purses}
        other.rows = list(self.rows)
        return other

    def turn_to(self, day):
        """Makes a day the one that it is."""
        self.day = day

    def hear(self, letter):
        """Takes note of a letter that counts."""
        self.counted.append(letter)
        word = letter[3]
        if word not in self.heard:
            self.heard[word] = True
            self.turned = True

    def end(self, cause, clause):
        """Ends it all, by a happening and a clause."""
        self.ended = self.day
        self.ended_by = cause
        self.ended_clause = clause
        self.turned = True

    def bring(self, duty, due, left, cause):
        """Brings a thing of a duty."""
        number = len(self.all_things[duty]) + 1
        thing = Thing(duty, number, self.day, due, left, cause)
        self.all_things[duty].append(thing)
        self.pending[duty].append(thing)
        self.turned = True

    def finish(self, thing, cause):
        """Makes an open or late thing a done one."""
        self.close(thing, DONE, cause)

    def let_go(self, thing, cause, clause):
        """Makes an open or late thing a freed one, by a clause or by none."""
        thing.clause = clause
        self.close(thing, FREED, cause)

    def close(self, thing, how, cause):
        """Makes an open or late thing a done or freed one."""
        thing.how = how
        thing.on = self.day
        thing.closed_by = cause
        self.pending[thing.duty].remove(thing)
        self.turned = True

    def lapse(self, thing):
        """Makes an open thing late, by which it is broken for ever."""
        thing.how = LATE
        thing.on = thing.due
        thing.late_on = self.day
        self.breached[thing.duty] = True
        self.turned = True

    def pay(self, debt, coins, cause):
        """Takes coins off a debt: a thing, which is done when it is paid whole, or what a fee has grown."""
        debt.left -= coins
        self.turned = True
        if debt.left == 0:
            if isinstance(debt, Thing):
                self.finish(debt, cause)
            else:
                del self.unpaid[debt.fee, debt.duty, debt.number]

    def keep(self, pair, coins):
        """Puts coins by for a pair, on top of what is put by for them."""
        self.purses[pair] = self.purses.get(pair, 0) + coins
        self.turned = True

    def take_out(self, pair):
        """Takes out all that is put by for a pair, and tells how many coins these are."""
        coins = self.purses[pair]
        del self.purses[pair]
        return coins

    def grown_for(self, fee, thing):
        """Tells what a fee has grown for a thing."""
        key = (fee.name, fee.duty, thing.number)
        return self.growths[key].grown if key in self.growths else 0

    def grow(self, fee, thing, evenings):
        """Lets a fee grow for a late thing on so many evenings; tells on how many of them it did."""
        more = min(fee.each * evenings, fee.most - self.grown_for(fee, thing))
        # It may be below 0: what has grown more by an elder text stays so.
        if more <= 0:
            return 0
        key = (fee.name, fee.duty, thing.number)
        growth = self.growths.setdefault(key, Growth(fee.name, fee.duty, thing.number, thing.due, fee.pair))
        growth.grown += more
        growth.left += more
        self.unpaid[key] = growth
        self.turned = True
        # On the last evening it may have grown by less than on the others.
        return (more + fee.each - 1) // fee.each
