"""The quick reckoner, and on which days something turns."""

from dealtongue.courses import Course
from dealtongue.errors import NoDay
from dealtongue.reckoner import State, state_behind
from dealtongue.refusals import refuse_to_reckon
from dealtongue.truths import words_that_may


def quick(agreement, letters, day):
    """Tells the State behind the evening of a day."""
    refuse_to_reckon(agreement, letters, day)
    return state_behind([(0, agreement)], letters, day)


def quick_on(agreement, letters, state, day):
    """Tells the State behind the evening of a day, from the State of an earlier one on."""
    refuse_to_reckon(agreement, letters, day)
    if day <= state.day:
        raise NoDay("a later day is wanted")
    course = Course([(0, agreement)], letters)
    course.go_on_from(state.standing.copied())
    course.run_to(day)
    return State(course)


def turnings(agreement, letters, day):
    """Lists the days behind which, but for the day itself, something is told otherwise than behind the one ahead."""
    refuse_to_reckon(agreement, letters, day)
    course = Course([(0, agreement)], letters)
    turned = []
    while course.over < day:
        over = course.over
        grew = course.pass_quiet_days(day)
        turned.extend(list(range(over + 1, over + 1 + grew)))
        if course.over < day and turns_next(course):
            turned.append(course.over)
    return turned


def turns_next(course):
    """Runs the next day of a course; tells whether it turns something."""
    standing = course.standing
    ahead = words_that_may(course.deal, standing)
    standing.turned = False
    course.run_next_day()
    return standing.turned or words_that_may(course.deal, standing) != ahead
