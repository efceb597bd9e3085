"""The quick reckoner: it goes from one busy day to the next.

A day is busy where more may happen on it than that fees grow for what is late.
"""

from dealtongue.conditions import days_in_condition
from dealtongue.deals import Deal
from dealtongue.errors import NoDay
from dealtongue.letters import letters_by_day
from dealtongue.payments import debts_of, grow_fees, late_things
from dealtongue.phases import MOST_PENDING, run_day
from dealtongue.reckoner import State, fresh_standing
from dealtongue.refusals import refuse_to_reckon
from dealtongue.standings import LATE, OPEN
from dealtongue.truths import words_that_may


def quick(agreement, letters, day):
    """Tells the State behind the evening of a day."""
    refuse_to_reckon(agreement, letters, day)
    deal = Deal(agreement)
    standing = fresh_standing(deal)
    run_on(deal, standing, letters, -1, day)
    return State(deal, standing)


def quick_on(agreement, letters, state, day):
    """Tells the State behind the evening of a day, from the State of an earlier one on."""
    refuse_to_reckon(agreement, letters, day)
    if day <= state.day:
        raise NoDay("a later day is wanted")
    deal = Deal(agreement)
    standing = state.standing.copied()
    run_on(deal, standing, letters, state.day, day)
    return State(deal, standing)


def turnings(agreement, letters, day):
    """Lists the days behind which, but for the day itself, something is told otherwise than behind the one ahead."""
    refuse_to_reckon(agreement, letters, day)
    deal = Deal(agreement)
    return run_on(deal, fresh_standing(deal), letters, -1, day)


def run_on(deal, standing, letters, over, last):
    """Runs the days behind the one that is over, to the last one; lists those that turn something."""
    by_day = letters_by_day(letters)
    named = days_in_text(deal) + list(by_day)
    turned = []
    while over < last:
        busy = next_busy_day(deal, standing, named, over, last)
        grew = pass_quiet_days(deal, standing, over, busy)
        turned.extend(list(range(over + 1, over + 1 + grew)))
        if busy <= last and turns_on(deal, standing, busy, by_day.get(busy, [])):
            turned.append(busy)
        over = busy
    return turned


def pass_quiet_days(deal, standing, over, busy):
    """Passes the days between the one that is over and a busy one; tells on how many of them some fee grew."""
    quiet = busy - over - 1
    if quiet == 0:
        return 0
    standing.day = busy - 1
    return grow_fees(deal, standing, late_things(standing), quiet)


def turns_on(deal, standing, day, letters):
    """Runs a busy day; tells whether it turns something."""
    ahead = words_that_may(deal, standing)
    standing.turned = False
    run_day(deal, standing, day, letters)
    return standing.turned or words_that_may(deal, standing) != ahead


def days_in_text(deal):
    """Lists the days that the text names where something may turn on them."""
    days = [trigger[1] for trigger in deal.morning_triggers if trigger[0] == "day"]
    for name in deal.words:
        days.extend(days_in_condition(deal.words[name][2]))
    return days


def next_busy_day(deal, standing, named, over, last):
    """Tells the first busy day behind the one that is over: a named one, or one by how things stand.

    Where there is none to the last day, the one behind that is told.
    """
    days = [last + 1] + [day for day in named if day > over]
    for trigger in deal.morning_triggers:
        if trigger[0] == "every" and can_do_something(deal, standing, trigger):
            days.append(next_step(trigger, over))
    for duty in standing.pending:
        days.extend([thing.due for thing in standing.pending[duty] if thing.how == OPEN])
    if leads_put_by(deal, standing):
        days.append(over + 1)
    return min(days)


def can_do_something(deal, standing, trigger):
    """Tells whether some clause of this trigger could do something as things stand, did its condition hold."""
    for free in deal.frees:
        if free.trigger == trigger and standing.pending[free.duty]:
            return True
    if standing.ended is not None:
        return False
    for duty in list(deal.duties.values()):
        if duty.trigger == trigger and len(standing.pending[duty.name]) < MOST_PENDING:
            return True
    return any([clause.trigger == trigger for clause in deal.ends])


def next_step(trigger, over):
    """Tells the first day behind the one that is over on which an ("every", first, step) happens."""
    _, first, step = trigger
    if over < first:
        return first
    return over + step - (over - first) % step


def leads_put_by(deal, standing):
    """Tells whether coins that are put by have a debt to go to, or get one by a fee that grows."""
    for pair in standing.purses:
        if debts_of(deal, standing, pair):
            return True
    for fee in deal.fee_clauses:
        if (fee.who, fee.whom) in standing.purses and still_grows(standing, fee):
            return True
    return False


def still_grows(standing, fee):
    """Tells whether a fee grows in the next evening, if nothing else happens."""
    late = [thing for thing in standing.pending[fee.duty] if thing.how == LATE]
    return any([standing.grown_for(fee, thing) < fee.most for thing in late])
