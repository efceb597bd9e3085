"""Agreements: whether a thing is one, and what is wrong first where it is none."""

from dealtongue.clauses import is_clause, is_share, is_word, named_by_clause
from dealtongue.conditions import named_by_condition
from dealtongue.days import is_rest
from dealtongue.kinds import are_unlike_names, is_tuple_of

LEAST_PARTIES = 2
MOST_PARTIES = 4
MOST_WORDS = 8
MOST_CLAUSES = 12


def is_agreement(thing):
    """Tells whether a thing is an agreement."""
    return first_wrong(thing) is None


def first_wrong(thing):
    """Tells what is wrong first of a thing as an agreement, None where it is one."""
    if not is_tuple_of(thing, 4, 4):
        return ("form",)
    parties, rest, words, clauses = thing
    if not are_unlike_names(parties, LEAST_PARTIES, MOST_PARTIES):
        return ("parties",)
    if not is_rest(rest):
        return ("rest",)
    # Names are followed only where each part is right by itself.
    wrong = first_wrong_word(words, parties)
    if wrong is None:
        wrong = first_wrong_clause(clauses, parties, words)
    if wrong is None:
        wrong = first_wrong_naming(words, clauses)
    return wrong


def first_wrong_word(words, parties):
    """Tells what is wrong first of the words by themselves."""
    if not is_tuple_of(words, 1, MOST_WORDS):
        return ("words",)
    taken = list(parties)
    for at, word in enumerate(words):
        if not is_word(word, parties) or word[0] in taken:
            return ("word", at)
        taken.append(word[0])
    return None


def first_wrong_clause(clauses, parties, words):
    """Tells what is wrong first of the clauses by themselves."""
    if not is_tuple_of(clauses, 1, MOST_CLAUSES):
        return ("clauses",)
    taken = list(parties) + [word[0] for word in words]
    for at, clause in enumerate(clauses):
        if not is_clause(clause, parties) or clause[1] in taken:
            return ("clause", at)
        taken.append(clause[1])
    return None


def first_wrong_naming(words, clauses):
    """Tells the first word, else the first clause, that names what isn't there or doesn't fit."""
    routes = {word[0]: (word[1], word[2]) for word in words}
    duties = {clause[1]: (clause[2], clause[3]) for clause in clauses if clause[0] == "duty"}
    for at, word in enumerate(words):
        if not are_there(named_by_condition(word[3]), routes, duties):
            return ("word", at)
    for at, clause in enumerate(clauses):
        if not are_there(named_by_clause(clause), routes, duties) or not fits(clause, routes, duties):
            return ("clause", at)
    return None


def are_there(named, routes, duties):
    """Tells whether all that is named is there and of its kind."""
    return all([name in (routes if kind == "word" else duties) for kind, name in named])


def fits(clause, routes, duties):
    """Tells whether a clause fits what it names, where all of that is there."""
    if clause[0] == "duty":
        return duty_fits(clause, routes)
    if clause[0] == "fee":
        who, whom = duties[clause[2]]
        return can_pay(who, whom, routes)
    return True


def duty_fits(clause, routes):
    """Tells whether the words of a duty's act are such as who can do it by."""
    who, whom, act, _, trigger = clause[2:7]
    if act[0] == "send":
        return all([routes[name] == (who, None) for name in act[1]])
    if is_share(act) and not has_coins(trigger[1], routes):
        return False
    return can_pay(who, whom, routes)


def has_coins(name, routes):
    """Tells whether the word of this name is one with coins."""
    _, payee = routes[name]
    return payee is not None


def can_pay(who, whom, routes):
    """Tells whether some word with coins goes from the one to the other."""
    return (who, whom) in list(routes.values())
