"""Which wrong thing is told of several, and that each place of an agreement is looked at."""

from dealtongue.agreements import first_wrong, is_agreement
from tests.samples import CLAUSES, REST, WORDS, Checks, agreement, odd_things, with_clause

NO_WORD = ("none", "ann", None, ("had", "nowhere"))
NO_DUTY = ("end", "noduty", ("done", "nowhere"), None)
BAD_WORD = ("bad", "ann", "ann", None)
BAD_CLAUSE = ("end", "bad", ("ended",), None)


def put(tree, path, thing):
    """Tells the tree with a thing at the end of a path."""
    if not path:
        return thing
    at = path[0]
    return tree[:at] + (put(tree[at], path[1:], thing),) + tree[at + 1:]


def found(tree, path):
    """Tells what is at the end of a path."""
    return found(tree[path[0]], path[1:]) if path else tree


def paths(tree):
    """Tells the paths to all things in a tree, the tree itself first."""
    yield ()
    if isinstance(tree, tuple):
        for at, part in enumerate(tree):
            for path in paths(part):
                yield (at,) + path


def place_of(path):
    """Tells the part of the agreement into which a path leads."""
    if not path:
        return ("form",)
    part = ("parties", "rest", "word", "clause")[path[0]]
    if path[0] < 2:
        return (part,)
    return (part, path[1]) if path[1:] else (part + "s",)


def may_be_left_out(path):
    """Tells whether a path leads to the payee of a word, or to a condition that may be None."""
    if len(path) != 3 or path[0] < 2:
        return False
    if path[0] == 2:
        return path[2] in (2, 3)
    return {"duty": 7, "free": 4, "end": 3}.get(CLAUSES[path[1]][0]) == path[2]


class Order(Checks):
    def test_what_is_wrong_in_words_by_themselves(self):
        self.wrong(agreement(words=(WORDS[0], BAD_WORD, BAD_WORD)), ("word", 1))
        self.wrong(agreement(words=(NO_WORD, BAD_WORD)), ("word", 1))
        self.wrong(agreement(words=(BAD_WORD,), clauses=()), ("word", 0))
        self.wrong(agreement(words=(BAD_WORD,), clauses=(BAD_CLAUSE,)), ("word", 0))
        self.wrong(agreement(words=(BAD_WORD,) * 8), ("word", 0))
        self.wrong(agreement(words=(BAD_WORD,) * 9), ("words",))

    def test_what_is_wrong_in_clauses_by_themselves(self):
        self.wrong(agreement(clauses=(CLAUSES[0], BAD_CLAUSE, BAD_CLAUSE)), ("clause", 1))
        self.wrong(agreement(clauses=(BAD_CLAUSE,) * 12), ("clause", 0))
        self.wrong(agreement(clauses=(BAD_CLAUSE,) * 13), ("clauses",))

    def test_names_are_looked_at_when_all_else_is_right(self):
        self.wrong(agreement(words=WORDS + (NO_WORD,), clauses=()), ("clauses",))
        self.wrong(agreement(words=WORDS + (NO_WORD,), clauses=CLAUSES[:3] + (BAD_CLAUSE,)), ("clause", 3))
        self.wrong(agreement(words=WORDS + (NO_WORD,), clauses=CLAUSES[:3] + (NO_DUTY,)), ("word", len(WORDS)))
        self.wrong(agreement(words=(NO_WORD,) + WORDS), ("word", 0))
        self.wrong(agreement(clauses=(NO_DUTY,) + CLAUSES[:6]), ("clause", 0))
        self.wrong(agreement(clauses=(NO_DUTY,) + CLAUSES[:6] + (BAD_CLAUSE,)), ("clause", 7))
        self.wrong(agreement(clauses=(NO_DUTY,) + CLAUSES[:6] + (NO_DUTY,)), ("clause", 7))

    def test_form_ahead_of_names_by_each_part(self):
        """Each fault by itself stands behind one by names, and is told all the same."""
        pay = ("pay", ("share", 1, 2))
        for clause in (
            ("duty", "extra", "ann", "ann", ("send", ("ask",)), ("days", 1), ("day", 1), None, False),
            ("duty", "extra", "dan", "ann", ("send", ("ask",)), ("days", 1), ("day", 1), None, False),
            ("duty", "extra", "ann", "bob", ("send", ("ask", "ask")), ("days", 1), ("day", 1), None, False),
            ("duty", "extra", "ann", "bob", ("send", ("word",)), ("days", 1), ("day", 1), None, False),
            ("duty", "extra", "ann", "bob", ("send", ("ask",)), ("days", 31), ("day", 1), None, False),
            ("duty", "extra", "ann", "bob", ("send", ("ask",)), ("days", 1), ("done", "duty"), None, False),
            ("duty", "extra", "ann", "bob", pay, ("days", 1), ("day", 1), None, False),
            ("duty", "give", "ann", "bob", ("send", ("ask",)), ("days", 1), ("day", 1), None, False),
            ("fee", "extra", "settle", 1, 0),
            ("fee", "extra", "pay", 1, 1),
            ("free", "extra", "give", ("ended",), None),
            ("free", "extra", "give", ("day", 1), ("had", "while")),
            ("end", "extra", ("ended",), None),
            ("end", "cash", ("day", 1), None),
        ):
            self.wrong(agreement(clauses=CLAUSES[:6] + (NO_DUTY, clause)), ("clause", 7))

    def test_names_behind_form_by_each_part(self):
        """Each fault by names stands ahead of one by itself, which is told."""
        share = ("pay", ("share", 1, 2))
        coins = ("pay", ("coins", 1))
        for clause in (
            ("duty", "extra", "ann", "bob", ("send", ("nowhere",)), ("days", 1), ("day", 1), None, False),
            ("duty", "extra", "ann", "bob", ("send", ("note",)), ("days", 1), ("day", 1), None, False),
            ("duty", "extra", "ann", "bob", ("send", ("back",)), ("days", 1), ("day", 1), None, False),
            ("duty", "extra", "ann", "cat", coins, ("days", 1), ("day", 1), None, False),
            ("duty", "extra", "ann", "cat", share, ("days", 1), ("letter", "back"), None, False),
            ("duty", "extra", "ann", "bob", share, ("days", 1), ("letter", "ask"), None, False),
            ("duty", "extra", "ann", "bob", share, ("days", 1), ("letter", "nowhere"), None, False),
            ("fee", "extra", "nowhere", 1, 1),
            ("fee", "extra", "answer", 1, 1),
            ("free", "extra", "fine", ("day", 1), None),
            ("end", "extra", ("day", 1), ("any", ("ended",), ("owes", "ask"))),
        ):
            self.wrong(with_clause(clause), ("clause", len(CLAUSES) - 1))
            ahead = CLAUSES[:6] + (clause, CLAUSES[6], ("fee", "other", "give", 1, 1), CLAUSES[7])
            self.wrong(agreement(clauses=ahead), ("clause", 6))
            self.wrong(agreement(clauses=ahead[:7] + (BAD_CLAUSE, CLAUSES[7])), ("clause", 7))

    def test_a_name_that_stands_already(self):
        word = ("give", "ann", None, None)
        self.wrong(agreement(words=WORDS + (word,)), ("clause", 0))
        self.wrong(agreement(words=WORDS[:2] + (("bob", "ann", None, None),) + WORDS[2:]), ("word", 2))
        self.wrong(agreement(clauses=CLAUSES[:1] * 2 + CLAUSES[1:6]), ("clause", 1))
        self.wrong(agreement(clauses=CLAUSES[:6] + (("end", "late", ("day", 1), None),)), ("clause", 6))


class EachPlace(Checks):
    def test_odd_things_in_each_place(self):
        whole = agreement()
        for path in paths(whole):
            for thing in odd_things():
                if thing is None and may_be_left_out(path):
                    continue
                if isinstance(thing, bool) and isinstance(found(whole, path), bool):
                    continue
                if isinstance(thing, str) and found(whole, path) == thing:
                    continue
                if thing == () and path in ((1, 0), (1, 1)):
                    continue
                self.wrong(put(whole, path, thing), self.expected(path, thing))

    def expected(self, path, thing):
        """Tells the place of an odd thing, or of what is wrong first within it."""
        if isinstance(thing, tuple) and path == () and len(thing) == 4:
            return ("parties",)
        if isinstance(thing, tuple) and thing and path in ((2,), (3,)):
            return place_of(path + (0,))
        return place_of(path)

    def test_conditions_left_out(self):
        whole = agreement()
        for path in paths(whole):
            if may_be_left_out(path) and path != (2, 3, 2) and path != (2, 4, 2):
                self.right(put(whole, path, None))
        # A payee left out makes a plain word: then none can pay ann, or bob, by it.
        self.wrong(put(whole, (2, 3, 2), None), ("clause", 1))
        self.wrong(put(whole, (2, 4, 2), None), ("clause", 2))

    def test_lists_in_the_place_of_tuples(self):
        whole = agreement()
        for path in paths(whole):
            tree = found(whole, path)
            if isinstance(tree, tuple):
                self.wrong(put(whole, path, list(tree)), place_of(path))
                self.wrong(put(whole, path, {at: part for at, part in enumerate(tree)}), place_of(path))

    def test_truths_in_the_place_of_equal_numbers(self):
        zeros = agreement(rest=((0, 1), (0, 1)), clauses=(
            ("duty", "give", "ann", "bob", ("pay", ("share", 1, 1)), ("days", 1), ("letter", "back"),
             ("before", 1), True),
            ("duty", "settle", "bob", "ann", ("pay", ("coins", 1)), ("work", 1), ("every", 0, 1), ("before", 0), False),
            ("fee", "fine", "give", 1, 1),
            ("end", "stop", ("day", 0), ("before", 1)),
            ("end", "halt", ("day", 1), ("before", 0)),
        ))
        self.right(zeros)
        for path in paths(zeros):
            number = found(zeros, path)
            if isinstance(number, int) and not isinstance(number, bool) and number < 2:
                self.wrong(put(zeros, path, bool(number)), place_of(path))

    def test_numbers_in_the_place_of_stays(self):
        whole = agreement()
        for at in range(6):
            stays = whole[3][at][8]
            self.wrong(put(whole, (3, at, 8), int(stays)), ("clause", at))
            self.right(put(whole, (3, at, 8), not stays))


class Answers(Checks):
    def test_something_is_told_of_all_things(self):
        for thing in odd_things():
            self.assertIs(is_agreement(thing), False)
            for other in odd_things():
                self.assertEqual(first_wrong((thing, REST, (other,), (thing,))), ("parties",))
                self.assertEqual(first_wrong(((thing, other), REST, WORDS, CLAUSES)), ("parties",))

    def test_a_tuple_is_told_anew(self):
        self.assertEqual(first_wrong(None), ("form",))
        self.assertIsInstance(first_wrong(agreement(words=(None,))), tuple)
        self.assertIs(type(first_wrong(agreement(words=(None,)))[1]), int)
