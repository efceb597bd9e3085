"""Which texts are told alike for all conduct, and what conduct parts those that aren't."""

from dealtongue.bounds import refuse_coins, refuse_too_wide
from dealtongue.errors import OtherParties
from dealtongue.faces import Groups, Side
from dealtongue.machines import Machine
from dealtongue.refusals import refuse_no_agreement
from dealtongue.searches import Search


def apart(one, other):
    """Tells the first day behind which a conduct parts two agreements, and a shortest one that does; None of none."""
    refuse_no_agreement(one)
    refuse_no_agreement(other)
    refuse_coins(one)
    refuse_coins(other)
    if one[0] != other[0]:
        raise OtherParties("agreements of the same parties are wanted")
    refuse_too_wide(one, None)
    refuse_too_wide(other, None)
    # Where as many things are broken in each evening as many are by it: that is looked at first, having fewer places.
    if parting_of(one, other, False) is None:
        return None
    return parting_of(one, other, True)


def parting_of(one, other, counting):
    """Looks for the first parting of two agreements by what is broken to a day, or by what is broken on it alone."""
    return first_parting(Side("one", Machine(one, None, counting)), Side("other", Machine(other, None, counting)))


def first_parting(one, other):
    """Looks through the pairs of places to which a conduct leads for the first two that are told otherwise.

    Places that a conduct leads to together are put in one group. A pair in one group already is passed over: what
    parts it parts some pair that was looked at ahead of it, too, and no later.
    """
    letters = sorted(set(one.letters() + other.letters()))
    search = Search((one.machine.beginning(), other.machine.beginning()))
    groups = Groups()
    while not search.is_over():
        step = search.take()
        (place, other_place), real_day, _, _, _ = search.steps[step]
        seen, other_seen = one.sight(place, real_day), other.sight(other_place, real_day)
        if not groups.unite(seen.key, other_seen.key):
            continue
        if seen.face != other_seen.face:
            return ("apart", real_day, search.conduct_to(step))
        for letter in letters:
            further = (seen.behind(letter), other_seen.behind(letter))
            if further != (place, other_place):
                search.found_by_letter(step, further, letter)
        search.found_by_day(step, (seen.next_place, other_seen.next_place))
    return None
