"""Words and clauses by themselves: what can be seen of one without a look at the others.

What they name is only told here. Whether it is there and fits is a thing of the whole agreement.
"""

from dealtongue.conditions import is_condition_or_none, named_by_condition
from dealtongue.days import is_span
from dealtongue.kinds import are_unlike_names, is_day, is_name, is_number_within, is_tuple_of

MOST_COINS = 1000000000
MOST_SHARE = 1000
LONGEST_STEP = 60
MOST_TO_SEND = 2
CLAUSE_SIZES = {"duty": 9, "fee": 5, "free": 5, "end": 4}


def is_word(thing, parties):
    """Tells whether a thing is a word between these parties, by itself."""
    if not is_tuple_of(thing, 4, 4):
        return False
    name, sender, payee, condition = thing
    if not is_name(name) or sender not in parties:
        return False
    if payee is not None and (payee not in parties or payee == sender):
        return False
    return is_condition_or_none(condition)


def is_clause(thing, parties):
    """Tells whether a thing is a clause between these parties, by itself."""
    if not isinstance(thing, tuple) or not thing:
        return False
    word = thing[0]
    # A list or a dict is no key, and so may not be looked up.
    if not isinstance(word, str) or CLAUSE_SIZES.get(word) != len(thing) or not is_name(thing[1]):
        return False
    if word == "duty":
        return is_duty(thing, parties)
    if word == "fee":
        return is_fee(thing)
    if word == "free":
        return is_name(thing[2]) and is_going(thing[3], thing[4])
    return is_going(thing[2], thing[3])


def is_duty(clause, parties):
    """Tells whether the parts of a duty, behind its name, are right by themselves."""
    who, whom, act, span, trigger, condition, stays = clause[2:]
    if who not in parties or whom not in parties or who == whom:
        return False
    if not is_act(act) or not is_span(span) or not is_trigger(trigger):
        return False
    if is_share(act) and trigger[0] != "letter":
        return False
    return is_condition_or_none(condition) and isinstance(stays, bool)


def is_fee(clause):
    """Tells whether the parts of a fee, behind its name, are right by themselves."""
    duty, each, most = clause[2:]
    return is_name(duty) and is_number_within(each, 1, MOST_COINS) and is_number_within(most, 1, MOST_COINS)


def is_going(trigger, condition):
    """Tells whether these are the trigger and the condition of a clause that frees or ends."""
    return is_trigger(trigger) and trigger[0] != "ended" and is_condition_or_none(condition)


def is_act(thing):
    """Tells whether a thing is an act by its form."""
    if not is_tuple_of(thing, 2, 2):
        return False
    word, what = thing
    if word == "send":
        return are_unlike_names(what, 1, MOST_TO_SEND)
    return word == "pay" and is_amount(what)


def is_amount(thing):
    """Tells whether a thing is an amount by its form."""
    if not is_tuple_of(thing, 2, 3):
        return False
    if thing[0] == "coins":
        return len(thing) == 2 and is_number_within(thing[1], 1, MOST_COINS)
    if thing[0] != "share" or len(thing) != 3:
        return False
    top, bottom = thing[1:]
    return is_number_within(bottom, 1, MOST_SHARE) and is_number_within(top, 1, bottom)


def is_share(act):
    """Tells whether an act is to pay a share."""
    word, what = act
    return word == "pay" and what[0] == "share"


def is_trigger(thing):
    """Tells whether a thing is a trigger by its form."""
    if not is_tuple_of(thing, 1, 3):
        return False
    word = thing[0]
    if word == "ended":
        return len(thing) == 1
    if word == "every":
        return len(thing) == 3 and is_day(thing[1]) and is_number_within(thing[2], 1, LONGEST_STEP)
    if len(thing) != 2:
        return False
    if word == "day":
        return is_day(thing[1])
    return word in ("letter", "done", "broken") and is_name(thing[1])


def named_by_trigger(trigger):
    """Lists what a trigger names: pairs of "word" or "duty" and the name."""
    word = trigger[0]
    if word == "letter":
        return [("word", trigger[1])]
    if word in ("done", "broken"):
        return [("duty", trigger[1])]
    return []


def named_by_act(act):
    """Lists what an act names: pairs of "word" and the name."""
    word, what = act
    if word == "send":
        return [("word", name) for name in what]
    return []


def named_by_clause(clause):
    """Lists what a clause names: pairs of "word" or "duty" and the name."""
    word = clause[0]
    if word == "fee":
        return [("duty", clause[2])]
    if word == "end":
        return named_by_trigger(clause[2]) + named_by_condition(clause[3])
    if word == "free":
        return [("duty", clause[2])] + named_by_trigger(clause[3]) + named_by_condition(clause[4])
    return named_by_act(clause[4]) + named_by_trigger(clause[6]) + named_by_condition(clause[7])
