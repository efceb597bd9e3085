"""An agreement as the reckoners look things up in it: its clauses with their parts by name."""

ENDED = ("ended",)
MORNING = ("day", "every", "ended")
AT_A_LETTER = ("letter", "done", "ended")
EVENING = ("done", "broken", "ended")


class Duty:
    """A duty clause: `words` are those that do it, `amount` what there is to pay (None of one to send)."""

    def __init__(self, place, clause):
        self.place = place
        _, self.name, self.who, self.whom, act, self.span, self.trigger, self.condition, self.stays = clause
        self.kind, what = act
        self.words = what if self.kind == "send" else ()
        self.amount = what if self.kind == "pay" else None

    def goes_on_as(self, other):
        """Tells whether the things of this duty stay when the other one of its name is in force."""
        return (self.who, self.whom, self.kind) == (other.who, other.whom, other.kind)


class Fee:
    """A fee clause, with the two of the duty that it is for."""

    def __init__(self, place, clause, duty):
        self.place = place
        _, self.name, self.duty, self.each, self.most = clause
        self.pair = (duty.who, duty.whom)


class Free:
    """A clause that frees the things of a duty."""

    def __init__(self, clause):
        _, self.name, self.duty, self.trigger, self.condition = clause


class End:
    """A clause that ends it all."""

    def __init__(self, clause):
        _, self.name, self.trigger, self.condition = clause


class Deal:
    """An agreement, its duties in the order of the text."""

    def __init__(self, agreement):
        self.parties, self.rest, words, clauses = agreement
        self.words = {name: (sender, payee, condition) for name, sender, payee, condition in words}
        placed = list(enumerate(clauses))
        self.duties = {clause[1]: Duty(place, clause) for place, clause in placed if clause[0] == "duty"}
        self.fee_clauses = [
            Fee(place, clause, self.duties[clause[2]]) for place, clause in placed if clause[0] == "fee"
        ]
        self.fee_places = {(fee.name, fee.duty): fee.place for fee in self.fee_clauses}
        self.frees = [Free(clause) for clause in clauses if clause[0] == "free"]
        self.ends = [End(clause) for clause in clauses if clause[0] == "end"]
        # All clauses that go by a trigger, and those that may go in each kind of phase.
        self.going = list(self.duties.values()) + self.frees + self.ends
        self.going_in_mornings = going_by(self.going, MORNING)
        self.going_at_letters = going_by(self.going, AT_A_LETTER)
        self.going_in_evenings = going_by(self.going, EVENING)
        self.morning_triggers = morning_triggers(self.going)


def going_by(going, kinds):
    """Lists the clauses whose triggers are of these kinds."""
    return [clause for clause in going if clause.trigger[0] in kinds]


def morning_triggers(going):
    """Lists the triggers that happen in mornings, each once."""
    triggers = [clause.trigger for clause in going]
    return list({trigger: True for trigger in triggers if trigger[0] in ("day", "every")})


def falls_on(trigger, day):
    """Tells whether a trigger of mornings happens on a day."""
    if trigger[0] == "day":
        return trigger[1] == day
    _, first, step = trigger
    return day >= first and (day - first) % step == 0
