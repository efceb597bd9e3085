"""How texts and letters go on over the days, from one busy day to the next.

A day is busy where more may happen on it than that fees grow for what is late: the others needn't be gone through.
"""

from dealtongue.conditions import days_in_condition
from dealtongue.deals import Deal
from dealtongue.letters import letters_by_day
from dealtongue.payments import debts_of, grow_fees, late_things, still_grows
from dealtongue.phases import MOST_PENDING, run_day, run_letter, run_morning
from dealtongue.standings import OPEN, Standing
from dealtongue.truths import is_so


class Course:
    """Goes over the days of texts with letters: `over` is the last day that is over, `deal` the text in force."""

    def __init__(self, versions, letters):
        self.texts = [(first, Deal(agreement)) for first, agreement in versions]
        self.by_day = letters_by_day(letters)
        self.standing = Standing()
        self.over = -1
        self.place = 0
        self.deal = None
        self.named = []
        self.take_text()

    def take_text(self):
        """Makes the text at the course's place the one in force."""
        _, self.deal = self.texts[self.place]
        # The next one last, where it is taken off.
        self.named = sorted(days_in_text(self.deal) + list(self.by_day), reverse=True)
        self.standing.make_room(list(self.deal.duties))

    def take_next_text(self):
        """Makes the next text the one in force, from the day behind the last one that is over."""
        elder = self.deal
        self.place += 1
        self.take_text()
        self.standing.turn_to(self.over + 1)
        free_what_is_left_out(elder, self.deal, self.standing)

    def go_on_from(self, standing):
        """Takes up how things stand behind another day, in the place of the beginning."""
        self.standing = standing
        self.over = standing.day

    def next_text_day(self, last):
        """Tells the day on which the next text comes into force, or the one behind the last where none does by then."""
        if self.place + 1 == len(self.texts):
            return last + 1
        return min(last + 1, self.texts[self.place + 1][0])

    def pass_quiet_days(self, last):
        """Passes quiet days, to the last one and while one text is in force; tells on how many some fee grew."""
        passed = min(self.next_busy_day(last), self.next_text_day(last)) - 1
        quiet = passed - self.over
        if quiet == 0:
            return 0
        self.over = passed
        self.standing.turn_to(passed)
        return grow_fees(self.deal, self.standing, late_things(self.standing), quiet)

    def run_next_day(self):
        """Runs the day behind the last one that is over."""
        day = self.over + 1
        if self.next_text_day(day) == day:
            self.take_next_text()
        self.over = day
        run_day(self.deal, self.standing, day, self.by_day.get(day, []))

    def run_ahead_of(self, letter):
        """Runs the morning of a letter's day, the next one, and the letters that are said on it ahead of this one."""
        self.standing.turn_to(letter[0])
        run_morning(self.deal, self.standing)
        for other in self.by_day[letter[0]]:
            if other[1] < letter[1]:
                run_letter(self.deal, self.standing, other)

    def run_to(self, last):
        """Runs all days to the last one."""
        while self.over < last:
            self.pass_quiet_days(last)
            if self.over < last:
                self.run_next_day()

    def next_told_otherwise(self, last):
        """Tells the next day on which something may be told otherwise, or the one behind the last."""
        for fee in self.deal.fee_clauses:
            if still_grows(self.standing, fee):
                return self.over + 1
        return min(self.next_busy_day(last), self.next_text_day(last))

    def next_busy_day(self, last):
        """Tells the next busy day by the text in force, or the one behind the last where none comes by then."""
        while self.named and self.named[-1] <= self.over:
            self.named.pop()
        days = [last + 1] + self.named[-1:]
        for duty in self.standing.pending:
            days.extend([thing.due for thing in self.standing.pending[duty] if thing.how == OPEN])
        if leads_put_by(self.deal, self.standing):
            days.append(self.over + 1)
        days.extend(self.days_of_steps())
        return min(days)

    def days_of_steps(self):
        """Lists the next days of the steps of which something could come as things stand."""
        # A condition turns by the day alone on named days only, which are busy: steps behind them don't matter yet.
        found = []
        for trigger in self.deal.morning_triggers:
            if trigger[0] == "every" and does_something(self.deal, self.standing, trigger):
                found.append(next_step(trigger, self.over))
        return found


def course_to(versions, letters, day):
    """Tells the course of versions and letters behind the evening of a day."""
    course = Course(versions, letters)
    course.run_to(day)
    return course


def days_in_text(deal):
    """Lists the days that the text names where something may turn on them."""
    days = [trigger[1] for trigger in deal.morning_triggers if trigger[0] == "day"]
    for name in deal.words:
        days.extend(days_in_condition(deal.words[name][2]))
    for clause in deal.going:
        if clause.trigger[0] == "every":
            days.extend(days_in_condition(clause.condition))
    return days


def free_what_is_left_out(elder, deal, standing):
    """Frees the open and late things of the elder text's duties that don't go on in the text now in force."""
    for name in list(elder.duties):
        if name in deal.duties and elder.duties[name].goes_on_as(deal.duties[name]):
            continue
        for thing in list(standing.pending[name]):
            standing.let_go(thing, ("day", standing.day), None)


def does_something(deal, standing, trigger):
    """Tells whether some clause of this trigger would do something as things stand."""
    for free in deal.frees:
        if free.trigger == trigger and standing.pending[free.duty] and is_so(free.condition, standing):
            return True
    if standing.ended is not None:
        return False
    for duty in list(deal.duties.values()):
        if duty.trigger == trigger and len(standing.pending[duty.name]) < MOST_PENDING:
            if is_so(duty.condition, standing):
                return True
    return any([clause.trigger == trigger and is_so(clause.condition, standing) for clause in deal.ends])


def next_step(trigger, over):
    """Tells the first day behind the one that is over on which an ("every", first, step) happens."""
    _, first, step = trigger
    if over < first:
        return first
    return over + step - (over - first) % step


def leads_put_by(deal, standing):
    """Tells whether coins that are put by have a debt to go to, or get one by a fee that grows."""
    for pair in standing.purses:
        if debts_of(deal, standing, pair):
            return True
    for fee in deal.fee_clauses:
        if fee.pair in standing.purses and still_grows(standing, fee):
            return True
    return False
