"""Days, days of rest, and spans of days or of working days."""

from dealtongue.errors import NoDay, NoRest, NoSpan
from dealtongue.kinds import LAST_DAY, are_rising_numbers, is_day, is_number_within, is_tuple_of

WEEK = 7
MOST_WEEKDAYS = 4
MOST_HOLIDAYS = 20
LONGEST_SPAN = 30


def is_rest(thing):
    """Tells whether a thing is a rest: (weekdays, holidays)."""
    if not is_tuple_of(thing, 2, 2):
        return False
    weekdays, holidays = thing
    if not are_rising_numbers(weekdays, MOST_WEEKDAYS, WEEK - 1):
        return False
    return are_rising_numbers(holidays, MOST_HOLIDAYS, LAST_DAY)


def is_span(thing):
    """Tells whether a thing is a span: ("days", n) or ("work", n)."""
    if not is_tuple_of(thing, 2, 2):
        return False
    word, many = thing
    return word in ("days", "work") and is_number_within(many, 1, LONGEST_SPAN)


def is_work(day, rest):
    """Tells whether a day is a working day."""
    refuse_no_day(day)
    refuse_no_rest(rest)
    return works(day, rest)


def after(day, span, rest):
    """Tells the day to which a span leads from a day."""
    refuse_no_day(day)
    if not is_span(span):
        raise NoSpan("a span is wanted")
    refuse_no_rest(rest)
    return day_led_to(day, span, rest)


def work_between(one, other, rest):
    """Tells how many working days are later than one day and not later than the other one."""
    refuse_no_day(one)
    refuse_no_day(other)
    refuse_no_rest(rest)
    return max(0, work_days_to(other, rest) - work_days_to(one, rest))


def refuse_no_day(thing):
    """Refuses what is no day."""
    if not is_day(thing):
        raise NoDay("a day is wanted")


def refuse_no_rest(thing):
    """Refuses what is no rest."""
    if not is_rest(thing):
        raise NoRest("a rest is wanted")


def works(day, rest):
    """Tells of a number of any size whether the day of this number is a working day."""
    weekdays, holidays = rest
    return day % WEEK not in weekdays and day not in holidays


def day_led_to(day, span, rest):
    """Tells of a number of any size the day to which a span leads from the day of this number."""
    word, many = span
    if word == "days":
        return day + many
    return nth_work_day(day, many, rest)


def nth_work_day(day, many, rest):
    """Tells the working day that is so many of them behind a day."""
    weekdays, holidays = rest
    each_week = WEEK - len(weekdays)
    # Whole weeks are passed at once, as many as surely lead to a day ahead of the one looked for.
    weeks = (many - 1) // each_week
    found = day + WEEK * weeks
    lost = [holiday for holiday in holidays if day < holiday <= found and holiday % WEEK not in weekdays]
    left = many - weeks * each_week + len(lost)
    while left > 0:
        found += 1
        if works(found, rest):
            left -= 1
    return found


def work_days_to(day, rest):
    """Counts the working days from day 0 to a day, both taken in."""
    weekdays, holidays = rest
    # (day - remainder) // WEEK + 1 of the days up to this one have that remainder.
    by_weekday = [(day - remainder) // WEEK + 1 for remainder in range(WEEK) if remainder not in weekdays]
    lost = [holiday for holiday in holidays if holiday <= day and holiday % WEEK not in weekdays]
    return sum(by_weekday) - len(lost)
