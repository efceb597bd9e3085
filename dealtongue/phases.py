"""The phases of a day: the morning, each letter said on it, the evening."""

from dealtongue.days import day_led_to
from dealtongue.deals import ENDED, falls_on
from dealtongue.payments import grow_fees, late_things, lead_letter, lead_put_by
from dealtongue.standings import LATE, OPEN
from dealtongue.truths import is_so

# So many things of a duty may be open or late at once.
MOST_PENDING = 2


class Phase:
    """What happens in one phase, and the clauses that go by it.

    It is made ahead of all that the phase does: conditions are asked of the state as it is then.
    """

    def __init__(self, deal, standing, going):
        self.deal = deal
        self.standing = standing
        self.ready = [clause.name for clause in going if is_so(clause.condition, standing)]
        # By each trigger the happenings that were it, in the order in which they go.
        self.happened = {}
        # What the letter of the phase brings, of which shares are taken.
        self.coins = 0

    def note(self, word, things):
        """Takes note that things were done or broken."""
        for _, duty, number in sorted([(word, thing.duty, thing.number) for thing in things]):
            self.happened.setdefault((word, duty), []).append((word, duty, number))

    def causes(self, clause):
        """Lists the happenings by which a clause goes in this phase."""
        return self.happened.get(clause.trigger, []) if clause.name in self.ready else []

    def run_clauses(self):
        """Lets all clauses go by what happened."""
        if self.happened:
            self.free_things()
            self.end_all()
            self.bring_things()

    def free_things(self):
        """Lets the free clauses go."""
        for clause in self.deal.frees:
            causes = self.causes(clause)
            if causes:
                self.free_all_of(clause.duty, causes[0], clause.name)

    def free_all_of(self, duty, cause, clause):
        """Frees the things of a duty that are open or late, by a clause or by none."""
        for thing in list(self.standing.pending[duty]):
            self.standing.let_go(thing, cause, clause)

    def end_all(self):
        """Lets the end clauses go, where it hasn't ended."""
        if self.standing.ended is not None:
            return
        clauses = [clause for clause in self.deal.ends if self.causes(clause)]
        if not clauses:
            return
        first = clauses[0]
        self.standing.end(self.causes(first)[0], first.name)
        self.happened[ENDED] = [ENDED]
        for duty in list(self.deal.duties.values()):
            if not duty.stays:
                self.free_all_of(duty.name, ENDED, None)

    def bring_things(self):
        """Lets the duties go: where it has ended, only those that its end brings."""
        for duty in list(self.deal.duties.values()):
            if self.standing.ended is None or duty.trigger == ENDED:
                for cause in self.causes(duty):
                    self.bring_thing(duty, cause)

    def bring_thing(self, duty, cause):
        """Brings a thing of a duty, where there is room for it and its amount isn't 0."""
        left = self.amount_of(duty)
        if len(self.standing.pending[duty.name]) == MOST_PENDING or (duty.amount is not None and left == 0):
            return
        due = day_led_to(self.standing.day, duty.span, self.deal.rest)
        self.standing.bring(duty.name, due, left, cause)

    def amount_of(self, duty):
        """Tells the coins that a thing brought now is to pay, 0 of one to send."""
        if duty.amount is None:
            return 0
        if duty.amount[0] == "coins":
            return duty.amount[1]
        _, top, bottom = duty.amount
        return self.coins * top // bottom


def run_day(deal, standing, day, letters):
    """Runs all phases of a day, with the letters said on it."""
    standing.turn_to(day)
    run_morning(deal, standing)
    for letter in letters:
        run_letter(deal, standing, letter)
    run_evening(deal, standing)


def run_morning(deal, standing):
    """Runs the morning of the standing's day."""
    triggers = [trigger for trigger in deal.morning_triggers if falls_on(trigger, standing.day)]
    if not triggers:
        return
    phase = Phase(deal, standing, deal.going_in_mornings)
    phase.happened = {trigger: [("day", standing.day)] for trigger in triggers}
    phase.run_clauses()


def run_letter(deal, standing, letter):
    """Runs the phase of a letter."""
    if not counts(deal, standing, letter):
        return
    said, turn, _, word, coins = letter
    _, payee, _ = deal.words[word]
    phase = Phase(deal, standing, deal.going_at_letters)
    phase.happened = {("letter", word): [("counts", said, turn)]}
    phase.coins = coins
    if payee is None:
        done = do_first_thing(deal, standing, letter)
    else:
        done = lead_letter(deal, standing, letter)
    standing.hear(letter)
    phase.note("done", done)
    phase.run_clauses()


def run_evening(deal, standing):
    """Runs the evening of the standing's day."""
    phase = Phase(deal, standing, deal.going_in_evenings)
    # Fees grow only for things that were late ahead of the evening.
    late = late_things(standing)
    phase.note("done", lead_put_by(deal, standing))
    phase.note("broken", lapse_things(standing))
    grow_fees(deal, standing, [thing for thing in late if thing.how == LATE], 1)
    phase.run_clauses()


def first_against(deal, standing, letter):
    """Tells what a letter is idle for, first of these: "word", "sender", "coins", "while"; None where it counts."""
    _, _, sender, word, coins = letter
    if word not in deal.words:
        return "word"
    teller, payee, condition = deal.words[word]
    if sender != teller:
        return "sender"
    if (coins > 0) != (payee is not None):
        return "coins"
    return None if is_so(condition, standing) else "while"


def counts(deal, standing, letter):
    """Tells whether a letter counts as things stand."""
    return first_against(deal, standing, letter) is None


def do_first_thing(deal, standing, letter):
    """Does the first thing, if any, that a letter of a plain word can do; lists it."""
    said, turn, _, word, _ = letter
    rows = []
    for duty in list(deal.duties.values()):
        if word in duty.words:
            rows.extend([(thing.due, duty.place, thing.number, thing) for thing in standing.pending[duty.name]])
    if not rows:
        return []
    first = min(rows, key=lambda row: (row[0], row[1], row[2]))
    standing.finish(first[3], ("counts", said, turn))
    return [first[3]]


def lapse_things(standing):
    """Makes the open things that are due on this day late; lists them."""
    found = []
    for duty in standing.pending:
        found.extend([thing for thing in standing.pending[duty] if thing.how == OPEN and thing.due == standing.day])
    for thing in found:
        standing.lapse(thing)
    return found
