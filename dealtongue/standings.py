"""How things stand at one moment of the reckoning: all that is carried on from phase to phase."""

OPEN = "open"
LATE = "late"
DONE = "done"
FREED = "freed"


class Thing:
    """A duty as it was brought one time: `left` are the coins that aren't paid, `late_on` the day it was broken."""

    def __init__(self, duty, number, brought, due, left):
        self.duty = duty
        self.number = number
        self.brought = brought
        self.due = due
        self.left = left
        self.how = OPEN
        self.on = brought
        self.late_on = None

    def copied(self):
        """Tells another thing that is just like this one."""
        other = Thing(self.duty, self.number, self.brought, self.due, self.left)
        other.how = self.how
        other.on = self.on
        other.late_on = self.late_on
        return other


class Growth:
    """What a fee has grown for the thing of a number: `due` is that of the thing, `left` what isn't paid of it."""

    def __init__(self, fee, number, due):
        self.fee = fee
        self.number = number
        self.due = due
        self.grown = 0
        self.left = 0

    def copied(self):
        """Tells another one that is just like this one."""
        other = Growth(self.fee, self.number, self.due)
        other.grown = self.grown
        other.left = self.left
        return other


class Standing:
    """How things stand: things and what fees have grown, by the names of their clauses."""

    def __init__(self, duties, fees):
        self.day = 0
        self.ended = None
        self.heard = {}
        self.all_things = {duty: [] for duty in duties}
        # Those that are open or late, and below what isn't paid: so that the others needn't be gone through each day.
        self.pending = {duty: [] for duty in duties}
        self.breached = {}
        self.growths = {fee: {} for fee in fees}
        self.unpaid = {fee: {} for fee in fees}
        self.purses = {}
        # Set by all that is told of a State, but for the day.
        self.turned = False

    def copied(self):
        """Tells another standing that is just like this one, and shares nothing with it that changes."""
        other = Standing(list(self.all_things), list(self.growths))
        other.day = self.day
        other.ended = self.ended
        other.heard = dict(self.heard)
        for duty in list(self.all_things):
            things = [thing.copied() for thing in self.all_things[duty]]
            other.all_things[duty] = things
            other.pending[duty] = [thing for thing in things if thing.how in (OPEN, LATE)]
        other.breached = dict(self.breached)
        for fee in list(self.growths):
            growths = [growth.copied() for growth in list(self.growths[fee].values())]
            other.growths[fee] = {growth.number: growth for growth in growths}
            other.unpaid[fee] = {growth.number: growth for growth in growths if growth.left > 0}
        other.purses = {pair: self.purses[pair] for pair in self.purses}
        return other

    def hear(self, word):
        """Takes note of a word of which a letter counts."""
        if word not in self.heard:
            self.heard[word] = True
            self.turned = True

    def end(self):
        """Ends it all."""
        self.ended = self.day
        self.turned = True

    def bring(self, duty, due, left):
        """Brings a thing of a duty."""
        number = len(self.all_things[duty]) + 1
        thing = Thing(duty, number, self.day, due, left)
        self.all_things[duty].append(thing)
        self.pending[duty].append(thing)
        self.turned = True

    def close(self, thing, how):
        """Makes an open or late thing a done or freed one."""
        thing.how = how
        thing.on = self.day
        self.pending[thing.duty].remove(thing)
        self.turned = True

    def lapse(self, thing):
        """Makes an open thing late, by which it is broken for ever."""
        thing.how = LATE
        thing.on = thing.due
        thing.late_on = self.day
        self.breached[thing.duty] = True
        self.turned = True

    def pay(self, debt, coins):
        """Takes coins off a debt: a thing, which is done when it is paid whole, or what a fee has grown."""
        debt.left -= coins
        self.turned = True
        if debt.left == 0:
            if isinstance(debt, Thing):
                self.close(debt, DONE)
            else:
                del self.unpaid[debt.fee][debt.number]

    def keep(self, pair, coins):
        """Puts coins by for a pair, on top of what is put by for them."""
        if coins > 0:
            self.purses[pair] = self.purses.get(pair, 0) + coins
            self.turned = True

    def take_out(self, pair):
        """Takes out all that is put by for a pair, and tells how many coins these are."""
        coins = self.purses[pair]
        del self.purses[pair]
        return coins

    def grown_for(self, fee, thing):
        """Tells what a fee has grown for a thing."""
        growths = self.growths[fee.name]
        return growths[thing.number].grown if thing.number in growths else 0

    def grow(self, fee, thing, evenings):
        """Lets a fee grow for a late thing on so many evenings; tells on how many of them it did."""
        more = min(fee.each * evenings, fee.most - self.grown_for(fee, thing))
        if more == 0:
            return 0
        growth = self.growths[fee.name].setdefault(thing.number, Growth(fee.name, thing.number, thing.due))
        growth.grown += more
        growth.left += more
        self.unpaid[fee.name][thing.number] = growth
        self.turned = True
        # On the last evening it may have grown by less than on the others.
        return (more + fee.each - 1) // fee.each
