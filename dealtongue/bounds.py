"""Which agreements all conduct is looked through of: those without coins that aren't too wide."""

from dealtongue.conditions import days_in_condition
from dealtongue.errors import HasCoins, TooWide

MOST_WORDS_WIDE = 3
MOST_DUTIES_WIDE = 2
LONGEST_SPAN_WIDE = 3
LAST_DAY_NAMED = 10
LONGEST_STEP_WIDE = 4


def refuse_coins(agreement):
    """Refuses an agreement with words with coins."""
    for _, _, payee, _ in agreement[2]:
        if payee is not None:
            raise HasCoins("an agreement without coins is wanted")


def refuse_too_wide(agreement, condition):
    """Refuses an agreement that is too wide to be looked through, with a condition asked of it or None."""
    if is_wide(agreement, condition):
        raise TooWide("the agreement is too wide")


def is_wide(agreement, condition):
    """Tells whether an agreement without coins, with a condition asked of it or None, is too wide."""
    _, rest, words, clauses = agreement
    duties = [clause for clause in clauses if clause[0] == "duty"]
    triggers = triggers_of(clauses)
    steps = [trigger[2] for trigger in triggers if trigger[0] == "every"]
    by_letters_or_steps = [duty for duty in duties if duty[6][0] in ("letter", "every")]
    if len(words) > MOST_WORDS_WIDE or len(duties) > MOST_DUTIES_WIDE:
        return True
    if len(by_letters_or_steps) > 1 or any([duty[5][1] > LONGEST_SPAN_WIDE for duty in duties]):
        return True
    if any([step > LONGEST_STEP_WIDE for step in steps]) or (steps and rest[0]):
        return True
    return any([day > LAST_DAY_NAMED for day in named_days(agreement, condition)])


def triggers_of(clauses):
    """Lists the triggers of clauses without fees."""
    return [clause[6] if clause[0] == "duty" else clause[-2] for clause in clauses]


def named_days(agreement, condition):
    """Lists the days that an agreement names, and a condition asked of it or None."""
    _, rest, words, clauses = agreement
    found = list(rest[1])
    for trigger in triggers_of(clauses):
        if trigger[0] in ("day", "every"):
            found.append(trigger[1])
    for named in conditions_of(words, clauses) + [condition]:
        found.extend(days_in_condition(named))
    return found


def conditions_of(words, clauses):
    """Lists the conditions, or None, of words and of clauses without fees."""
    found = [word[3] for word in words]
    return found + [clause[7] if clause[0] == "duty" else clause[-1] for clause in clauses]
