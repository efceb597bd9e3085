"""What the tests share: an agreement with all kinds of things in it, and things that are none."""

import unittest

from dealtongue.agreements import first_wrong, is_agreement

BIG = 10 ** 2999
NO_REST = ((), ())
REST = ((0, 6), (0, 41, 3000))
PARTIES = ("ann", "bob", "cat")
WORDS = (
    ("ask", "ann", None, None),
    ("tell", "ann", None, ("had", "cash")),
    ("note", "bob", None, ("owes", "give")),
    ("cash", "bob", "ann", ("any", ("not", ("broken", "give")), ("before", 9), ("ended",))),
    ("back", "ann", "bob", ("all", ("had", "ask"), ("any", ("ended",), ("not", ("before", 3000))))),
)
CLAUSES = (
    ("duty", "give", "ann", "bob", ("send", ("ask", "tell")), ("days", 1), ("day", 41), ("had", "note"), True),
    ("duty", "settle", "bob", "ann", ("pay", ("coins", 12)), ("work", 30), ("every", 2, 7), ("ended",), False),
    ("duty", "part", "bob", "ann", ("pay", ("share", 2, 3)), ("days", 9), ("letter", "back"), ("ended",), False),
    ("duty", "answer", "bob", "cat", ("send", ("note",)), ("work", 2), ("done", "part"), ("before", 8), False),
    ("duty", "last", "ann", "cat", ("send", ("tell",)), ("work", 2), ("ended",), ("owes", "late"), True),
    ("duty", "late", "ann", "bob", ("pay", ("coins", 5)), ("days", 7), ("broken", "settle"), ("ended",), True),
    ("fee", "fine", "settle", 2, 60),
    ("fee", "mild", "give", 1, 1000000000),
    ("free", "spare", "give", ("letter", "note"), ("owes", "give")),
    ("free", "again", "late", ("every", 3, 60), ("not", ("ended",))),
    ("end", "stop", ("broken", "give"), ("before", 7)),
    ("end", "halt", ("done", "late"), ("had", "back")),
)
LANGUAGE_WORDS = (
    "parties rest holiday word by to while duty free fee end must pay send within days work after day every "
    "letter done broken ended had owes before not and or at most for stays coins"
).split()

# Where with_clause and with_word put what they are given.
LAST_CLAUSE = ("clause", len(CLAUSES) - 1)
LAST_WORD = ("word", len(WORDS))


class Checks(unittest.TestCase):
    """Asks both functions of agreements at once."""

    def right(self, thing):
        self.assertIsNone(first_wrong(thing), thing)
        self.assertIs(is_agreement(thing), True, thing)

    def wrong(self, thing, place):
        self.assertEqual(first_wrong(thing), place, thing)
        self.assertIs(is_agreement(thing), False, thing)


def agreement(parties=PARTIES, rest=REST, words=WORDS, clauses=CLAUSES):
    """Tells the agreement with other parts in the place of its own."""
    return (parties, rest, words, clauses)


def with_clause(clause):
    """Tells the agreement with this clause as its last one."""
    return agreement(clauses=CLAUSES[:-1] + (clause,))


def with_word(word):
    """Tells the agreement with this word as its last one."""
    return agreement(words=WORDS + (word,))


def with_condition(condition):
    """Tells the agreement with this condition on its last word."""
    return with_word(("extra", "cat", None, condition))


def nested(depth, wrap):
    """Tells a thing within so many others."""
    thing = 7
    for _ in range(depth):
        thing = wrap(thing)
    return thing


def odd_things():
    """Tells new things of every kind that fit nowhere in the agreement, but for None, truths and () in a rest."""
    return [
        None, True, False, -1, 1000000001, BIG, -BIG, "", " ", "A", "Ann", "ninesigns", "a1", "duty", "x y", "coins",
        (), [], ["ann"], [1, 2], [()], {}, {"ann": "bob"}, {1: [2]}, (None,), (True, False), ("",), ([], {}),
        nested(10, lambda thing: [thing]), nested(10, lambda thing: (thing,)), nested(10, lambda thing: {"k": thing}),
        ("duty",), ("free", []), ([], "name"), ({}, "name", 1, 2), (("duty",), 1, 2, 3, 4),
    ]


# What is no day, of all kinds.
NO_DAYS = [thing for thing in odd_things() if thing != 1000000001] + [-1, 3001, BIG, "8", (8,), [8], True, None]
