"""What may come, of all conduct."""

from dealtongue.bounds import refuse_coins, refuse_too_wide
from dealtongue.deals import Deal
from dealtongue.machines import Machine
from dealtongue.reckoner import refuse_no_condition
from dealtongue.refusals import refuse_no_agreement
from dealtongue.searches import Search


def may_come(agreement, condition):
    """Tells the first day behind which a condition can hold, and a shortest conduct behind which it does."""
    refuse_no_agreement(agreement)
    refuse_coins(agreement)
    refuse_no_condition(condition, Deal(agreement))
    refuse_too_wide(agreement, condition)
    return first_coming(Machine(agreement, condition, False), condition)


def first_coming(machine, condition):
    """Looks through all places of a machine for the first one behind whose evening a condition holds."""
    search = Search(machine.beginning())
    seen = {}
    while not search.is_over():
        step = search.take()
        place, real_day, _, _, _ = search.steps[step]
        day = machine.day_like(real_day)
        if (day, place) in seen:
            continue
        seen[day, place] = True
        behind, _ = machine.evening(place, day)
        if machine.holds(condition, day, machine.view_of(behind)):
            return ("comes", real_day, search.conduct_to(step))
        view = machine.view_of(place)
        for at in machine.words_at(day, view):
            further = machine.send(place, day, view, at)
            if (day, further) not in seen:
                name, sender, _, _ = machine.words[at]
                search.found_by_letter(step, further, (sender, name))
        search.found_by_day(step, machine.dawn(behind, machine.day_like(real_day + 1)))
    return ("never",)
