"""The phases of a day: the morning, each letter said on it, the evening."""

from dealtongue.days import after
from dealtongue.deals import falls_on
from dealtongue.payments import grow_fees, late_things, lead_coins, lead_put_by
from dealtongue.standings import DONE, FREED, LATE, OPEN
from dealtongue.truths import is_so

# So many things of a duty may be open or late at once.
MOST_PENDING = 2
ENDED = ("ended",)


class Phase:
    """What happens in one phase, and the clauses that go by it.

    It is made ahead of all that the phase does: conditions are asked of the state as it is then.
    """

    def __init__(self, deal, standing):
        self.deal = deal
        self.standing = standing
        self.ready = {clause.name: is_so(clause.condition, standing) for clause in deal.going}
        # Triggers, each as many times as it happens.
        self.happened = []
        # What the letter of the phase brings, of which shares are taken.
        self.coins = 0

    def note(self, word, things):
        """Takes note that things were done or broken."""
        self.happened.extend([(word, thing.duty) for thing in things])

    def times(self, clause):
        """Tells how many times a clause goes in this phase."""
        return self.happened.count(clause.trigger) if self.ready[clause.name] else 0

    def run_clauses(self):
        """Lets all clauses go by what happened."""
        self.free_things()
        self.end_all()
        self.bring_things()

    def free_things(self):
        """Lets the free clauses go."""
        for clause in self.deal.frees:
            if self.times(clause) > 0:
                self.free_all_of(clause.duty)

    def free_all_of(self, duty):
        """Frees the things of a duty that are open or late."""
        for thing in list(self.standing.pending[duty]):
            self.standing.close(thing, FREED)

    def end_all(self):
        """Lets the end clauses go, where it hasn't ended."""
        if self.standing.ended is not None or not any([self.times(clause) > 0 for clause in self.deal.ends]):
            return
        self.standing.end()
        self.happened.append(ENDED)
        for duty in list(self.deal.duties.values()):
            if not duty.stays:
                self.free_all_of(duty.name)

    def bring_things(self):
        """Lets the duties go: where it has ended, only those that its end brings."""
        for duty in list(self.deal.duties.values()):
            if self.standing.ended is None or duty.trigger == ENDED:
                for _ in range(self.times(duty)):
                    self.bring_thing(duty)

    def bring_thing(self, duty):
        """Brings a thing of a duty, where there is room for it and its amount isn't 0."""
        left = self.amount_of(duty)
        if len(self.standing.pending[duty.name]) == MOST_PENDING or (duty.amount is not None and left == 0):
            return
        due = after(self.standing.day, duty.span, self.deal.rest)
        self.standing.bring(duty.name, due, left)

    def amount_of(self, duty):
        """Tells the coins that a thing brought now is to pay, 0 of one to send."""
        if duty.amount is None:
            return 0
        if duty.amount[0] == "coins":
            return duty.amount[1]
        _, top, bottom = duty.amount
        return self.coins * top // bottom


def run_day(deal, standing, day, letters):
    """Runs all phases of a day, with the letters said on it."""
    standing.day = day
    run_morning(deal, standing)
    for letter in letters:
        run_letter(deal, standing, letter)
    run_evening(deal, standing)


def run_morning(deal, standing):
    """Runs the morning of the standing's day."""
    phase = Phase(deal, standing)
    phase.happened.extend([trigger for trigger in deal.morning_triggers if falls_on(trigger, standing.day)])
    phase.run_clauses()


def run_letter(deal, standing, letter):
    """Runs the phase of a letter."""
    if not counts(deal, standing, letter):
        return
    _, _, sender, word, coins = letter
    _, payee, _ = deal.words[word]
    phase = Phase(deal, standing)
    phase.happened.append(("letter", word))
    phase.coins = coins
    if payee is None:
        done = do_first_thing(deal, standing, word)
    else:
        done = lead_coins(deal, standing, (sender, payee), coins)
    standing.hear(word)
    phase.note("done", done)
    phase.run_clauses()


def run_evening(deal, standing):
    """Runs the evening of the standing's day."""
    phase = Phase(deal, standing)
    # Fees grow only for things that were late ahead of the evening.
    late = late_things(standing)
    phase.note("done", lead_put_by(deal, standing))
    phase.note("broken", lapse_things(standing))
    grow_fees(deal, standing, [thing for thing in late if thing.how == LATE], 1)
    phase.run_clauses()


def counts(deal, standing, letter):
    """Tells whether a letter counts as things stand."""
    _, _, sender, word, coins = letter
    if word not in deal.words:
        return False
    teller, payee, condition = deal.words[word]
    if sender != teller or (coins > 0) != (payee is not None):
        return False
    return is_so(condition, standing)


def do_first_thing(deal, standing, word):
    """Does the first thing, if any, that a plain word can do; lists it."""
    rows = []
    for duty in list(deal.duties.values()):
        if word in duty.words:
            rows.extend([(thing.due, duty.place, thing.number, thing) for thing in standing.pending[duty.name]])
    if not rows:
        return []
    first = min(rows, key=lambda row: (row[0], row[1], row[2]))
    standing.close(first[3], DONE)
    return [first[3]]


def lapse_things(standing):
    """Makes the open things that are due on this day late; lists them."""
    found = []
    for duty in standing.pending:
        found.extend([thing for thing in standing.pending[duty] if thing.how == OPEN and thing.due == standing.day])
    for thing in found:
        standing.lapse(thing)
    return found
