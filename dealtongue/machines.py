"""How a text without coins goes on, whatever is sent: from one place to the next, of which there are few.

A place is a tuple (known, counts, pending). `known` has a bit for each thing that conditions ask and that stays so
(a word had, a duty broken, ended), `counts` how many things were broken for each (who, whom), where these are counted.
`pending` are the open and late things in the order in which letters do them, as numbers: `left * many + at`, `at` the
duty's place among the `many` duties, `left` 0 of what is late, else 1 on the day due, 2 on the day ahead, and so on.
Days too late for anything the text names are told by the first such day that is alike by weekday and steps.
"""

from math import lcm

from dealtongue.bounds import conditions_of, named_days
from dealtongue.days import WEEK, day_led_to
from dealtongue.deals import ENDED, Deal, falls_on
from dealtongue.phases import MOST_PENDING

MOST_COUNTED = 3


class Machine:
    """The moves of a text: `asked` are a condition that is asked beside it or None, `counting` whether it counts."""

    def __init__(self, agreement, asked, counting):
        self.deal = Deal(agreement)
        self.duties = list(self.deal.duties.values())
        self.many = max(1, len(self.duties))
        self.words = [(name, *self.deal.words[name]) for name in self.deal.words]
        self.doers = [[at for at, duty in enumerate(self.duties) if word[0] in duty.words] for word in self.words]
        self.alike_from = max(named_days(agreement, asked) + [-1]) + 1
        self.period = period_of(self.deal)
        self.bits = {}
        self.number_what_is_asked(conditions_of(agreement[2], agreement[3]) + [asked])
        self.heard_bits = [self.bits.get(("had", word[0]), 0) for word in self.words]
        self.broken_bits = [self.bits.get(("broken", duty.name), 0) for duty in self.duties]
        self.owes_bits = [self.bits.get(("owes", duty.name), 0) for duty in self.duties]
        self.pairs = sorted({(duty.who, duty.whom) for duty in self.duties})
        self.none_broken = (0,) * len(self.pairs) if counting else ()
        # What was found out once.
        self.plans = {}
        self.sendable = {}
        self.leads = {}

    def number_what_is_asked(self, conditions):
        """Gives a bit to the end, and to each thing that the conditions ask."""
        self.bits[ENDED] = 1
        for condition in conditions:
            for part in plain_parts(condition):
                if part[0] != "before":
                    self.bits.setdefault(part, 1 << len(self.bits))

    def day_like(self, day):
        """Tells the first day that is alike for all that may come."""
        if day < self.alike_from:
            return day
        return self.alike_from + (day - self.alike_from) % self.period

    def holds(self, condition, day, view):
        """Tells whether a condition holds on a day, by what is so (see `view_of`)."""
        if condition is None:
            return True
        kind = condition[0]
        if kind == "before":
            return day < condition[1]
        if kind == "not":
            return not self.holds(condition[1], day, view)
        if kind in ("all", "any"):
            parts = [self.holds(part, day, view) for part in condition[1:]]
            return all(parts) if kind == "all" else any(parts)
        return view & self.bits[condition] > 0

    def view_of(self, place):
        """Tells what is so at a place, a bit for each thing that conditions ask."""
        known, _, pending = place
        for number in pending:
            known |= self.owes_bits[number % self.many]
        return known

    def words_at(self, day, view):
        """Lists the places of the words that would count."""
        key = (day, view)
        if key not in self.sendable:
            self.sendable[key] = [at for at, word in enumerate(self.words) if self.holds(word[3], day, view)]
        return self.sendable[key]

    def beginning(self):
        """Tells the place behind the morning of day 0."""
        return self.run_plan((0, self.none_broken, ()), 0, self.morning_plan(0, 0))

    def send(self, place, day, view, word):
        """Tells the place behind a letter of a word that counts, the word told by its place."""
        known, counts, pending = place
        found = [at for at, number in enumerate(pending) if number % self.many in self.doers[word]]
        done = -1
        if found:
            done = pending[found[0]] % self.many
            pending = pending[:found[0]] + pending[found[0] + 1:]
        key = (day, view, word, done)
        if key not in self.plans:
            happened = {("letter", self.words[word][0]): 1}
            if done >= 0:
                happened["done", self.duties[done].name] = 1
            self.plans[key] = self.made_plan(day, view, happened)
        return self.run_plan((known | self.heard_bits[word], counts, pending), day, self.plans[key])

    def evening(self, place, day):
        """Tells the place behind an evening, and for each duty how many of its things are broken in it."""
        known, counts, pending = place
        due = [number % self.many for number in pending if self.many <= number < 2 * self.many]
        if not due:
            return place, ()
        broken = tuple([due.count(at) for at in range(self.many)])
        view = self.view_of(place)
        for at in due:
            known |= self.broken_bits[at]
        if counts:
            counts = tuple([min(MOST_COUNTED, many + more) for many, more in zip(counts, self.by_pairs(broken))])
        # What is late now stands behind what was late already, and ahead of all that is open, as it did.
        late = [number % self.many for number in pending if number < 2 * self.many]
        pending = tuple(late + [number for number in pending if number >= 2 * self.many])
        key = (day, view, broken)
        if key not in self.plans:
            happened = {("broken", duty.name): times for duty, times in zip(self.duties, broken)}
            self.plans[key] = self.made_plan(day, view, happened)
        return self.run_plan((known, counts, pending), day, self.plans[key]), broken

    def by_pairs(self, broken):
        """Tells for each (who, whom) how many things are broken, of how many of each duty are."""
        found = [0] * len(self.pairs)
        for duty, many in zip(self.duties, broken):
            found[self.pairs.index((duty.who, duty.whom))] += many
        return tuple(found)

    def dawn(self, place, day):
        """Tells the place behind the morning of a day, from the one behind the evening ahead."""
        known, counts, pending = place
        pending = tuple([number - self.many if number >= self.many else number for number in pending])
        place = (known, counts, pending)
        return self.run_plan(place, day, self.morning_plan(day, self.view_of(place)))

    def morning_plan(self, day, view):
        """Tells the plan of a morning."""
        key = (day, view)
        if key not in self.plans:
            happened = {trigger: 1 for trigger in self.deal.morning_triggers if falls_on(trigger, day)}
            self.plans[key] = self.made_plan(day, view, happened)
        return self.plans[key]

    def made_plan(self, day, view, happened):
        """Tells what clauses make of a phase: (duties whose things are freed, whether it ends, duties that bring).

        `happened` are the triggers that happen, each with how many times. It is empty where nothing comes of it.
        """
        freed = [free.duty for free in self.deal.frees if self.times(free, day, view, happened) > 0]
        has_ended = view & self.bits[ENDED] > 0
        ends = not has_ended and any([self.times(end, day, view, happened) > 0 for end in self.deal.ends])
        brings = []
        if not has_ended:
            for at, duty in enumerate(self.duties):
                brings.extend([at] * self.times(duty, day, view, {ENDED: 1} if ends else happened))
        if not freed and not ends and not brings:
            return ()
        return ([at for at, duty in enumerate(self.duties) if duty.name in freed], ends, brings)

    def times(self, clause, day, view, happened):
        """Tells how many times a clause goes by what happened."""
        if clause.trigger not in happened or not self.holds(clause.condition, day, view):
            return 0
        return happened[clause.trigger]

    def run_plan(self, place, day, plan):
        """Tells the place behind what clauses make of a phase."""
        if not plan:
            return place
        freed, ends, brings = plan
        known, counts, pending = place
        if freed:
            pending = tuple([number for number in pending if number % self.many not in freed])
        if ends:
            known |= self.bits[ENDED]
            pending = tuple([number for number in pending if self.duties[number % self.many].stays])
        for at in brings:
            pending = self.with_one_more(pending, day, at)
        return (known, counts, pending)

    def with_one_more(self, pending, day, at):
        """Tells what is pending with one more thing of a duty, where there is room for it."""
        if len([number for number in pending if number % self.many == at]) == MOST_PENDING:
            return pending
        key = (day, at)
        if key not in self.leads:
            left = day_led_to(day, self.duties[at].span, self.deal.rest) - day + 1
            self.leads[key] = left * self.many + at
        lead = self.leads[key]
        ahead = [number for number in pending if number <= lead]
        return tuple(ahead + [lead] + [number for number in pending if number > lead])


def plain_parts(condition):
    """Lists the conditions within a condition, or None, that have none in them."""
    if condition is None:
        return []
    if condition[0] not in ("not", "all", "any"):
        return [condition]
    found = []
    for part in condition[1:]:
        found.extend(plain_parts(part))
    return found


def period_of(deal):
    """Tells behind how many days days are alike, by weekdays and steps."""
    found = 1
    if deal.rest[0] and any([duty.span[0] == "work" for duty in list(deal.duties.values())]):
        found = WEEK
    for trigger in deal.morning_triggers:
        if trigger[0] == "every":
            found = lcm(found, trigger[2])
    return found
