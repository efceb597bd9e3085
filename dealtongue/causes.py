"""Why it is so: chains of causes, conditions weighed, and why letters are idle."""

from dealtongue.courses import course_to
from dealtongue.deals import ENDED
from dealtongue.errors import NoHappening, NoLetterThere
from dealtongue.kinds import is_number, is_number_within
from dealtongue.phases import first_against
from dealtongue.reckoner import refuse_no_condition
from dealtongue.refusals import refuse_to_reckon
from dealtongue.standings import DONE, FREED
from dealtongue.truths import weigh


def chain(agreement, letters, day, happening):
    """Lists (happening, day, clause) from a happening on, each the cause of the one ahead."""
    refuse_to_reckon(agreement, letters, day)
    standing = course_to([(0, agreement)], letters, day).standing
    if not has_happened(happening, standing):
        raise NoHappening("something that happened by then is wanted")
    return links_from(happening, standing)


def is_chain(agreement, letters, day, thing):
    """Tells whether a thing is the chain of its first happening."""
    refuse_to_reckon(agreement, letters, day)
    standing = course_to([(0, agreement)], letters, day).standing
    if not isinstance(thing, list) or not thing or not isinstance(thing[0], tuple) or not thing[0]:
        return False
    happening = thing[0][0]
    if not has_happened(happening, standing):
        return False
    # True equals 1 to Python, but is no number here.
    return thing == links_from(happening, standing) and not has_truth(thing)


def weighed(agreement, letters, day, condition):
    """Tells how a condition holds behind a day: (word, truth, parts)."""
    refuse_to_reckon(agreement, letters, day)
    course = course_to([(0, agreement)], letters, day)
    refuse_no_condition(condition, course.deal)
    return weigh(condition, course.standing)


def idle_why(agreement, letters, day, said, turn):
    """Tells why a letter of the list is idle, None where it counts."""
    refuse_to_reckon(agreement, letters, day)
    found = letter_of(letters, said, turn)
    if found is None or said > day:
        raise NoLetterThere(said, turn)
    course = course_to([(0, agreement)], letters, said - 1)
    course.run_ahead_of(found)
    against = first_against(course.deal, course.standing, found)
    if against is None:
        return None
    if against == "while":
        _, _, condition = course.deal.words[found[3]]
        return ("while", weigh(condition, course.standing))
    return (against,)


def letter_of(letters, said, turn):
    """Tells the letter of this said and turn, None where there is none."""
    if not is_number(said) or not is_number(turn):
        return None
    found = [letter for letter in letters if letter[:2] == (said, turn)]
    return found[0] if found else None


def has_happened(thing, standing):
    """Tells whether a thing is a happening that happened by now."""
    if not isinstance(thing, tuple) or not thing:
        return False
    if thing == ENDED:
        return standing.ended is not None
    kind = thing[0]
    if len(thing) == 2:
        return kind == "day" and is_number_within(thing[1], 0, standing.day)
    if len(thing) != 3 or not is_number(thing[2]):
        return False
    if kind == "counts":
        return letter_of(standing.counted, thing[1], thing[2]) is not None
    found = thing_of(standing, thing[1], thing[2])
    if found is None:
        return False
    if kind == "broken":
        return found.late_on is not None
    return kind == "brought" or (kind == "done" and found.how == DONE) or (kind == "freed" and found.how == FREED)


def thing_of(standing, duty, number):
    """Tells the thing of a duty and a number, None where there is none."""
    if not isinstance(duty, str) or not 1 <= number <= len(standing.all_things.get(duty, [])):
        return None
    return standing.all_things[duty][number - 1]


def links_from(happening, standing):
    """Lists (happening, day, clause) from a happening that happened on, each the cause of the one ahead."""
    found = []
    cause = happening
    while cause is not None:
        day, clause, ahead = told_of(cause, standing)
        found.append((cause, day, clause))
        cause = ahead
    return found


def told_of(happening, standing):
    """Tells of a happening its day, the clause by which it happened, and its cause."""
    kind = happening[0]
    if kind in ("day", "counts"):
        return (happening[1], None, None)
    if kind == "ended":
        return (standing.ended, standing.ended_clause, standing.ended_by)
    duty, number = happening[1:]
    thing = standing.all_things[duty][number - 1]
    if kind == "brought":
        return (thing.brought, duty, thing.brought_by)
    if kind == "broken":
        return (thing.late_on, None, ("brought", duty, number))
    return (thing.on, thing.clause, thing.closed_by)


def has_truth(thing):
    """Tells whether True or False stands anywhere within a thing."""
    if isinstance(thing, (list, tuple)):
        return any([has_truth(part) for part in thing])
    return isinstance(thing, bool)
