"""What is an agreement, at the bounds and one beyond each."""

from tests.samples import (
    BIG, CLAUSES, LANGUAGE_WORDS, LAST_CLAUSE, LAST_WORD, NO_REST, PARTIES, REST, WORDS, Checks, agreement, nested,
    odd_things, with_clause, with_condition, with_word,
)

ENDED = ("ended",)


def letters(many):
    """So many names of one letter."""
    return tuple("abcdefghijklmnopqrstuvwxyz"[:many])


def knots(depth):
    """A condition of so many within one another."""
    return nested(depth - 1, lambda inner: ("not", ENDED if inner == 7 else inner)) if depth > 1 else ENDED


class Right(Checks):
    def test_all_kinds_of_things(self):
        self.right(agreement())

    def test_the_least(self):
        words = (("w", "a", None, None),)
        clauses = (("end", "e", ("day", 0), None),)
        self.right((("a", "b"), NO_REST, words, clauses))

    def test_names_that_only_look_like_words_of_the_language(self):
        words = (("from", "all", None, None),)
        clauses = (("end", "share", ("letter", "from"), None),)
        self.right((("all", "any"), NO_REST, words, clauses))

    def test_words_and_duties_named_ahead_of_where_they_stand(self):
        words = (
            ("one", "a", None, ("had", "two")),
            ("two", "a", "b", ("owes", "last")),
            ("own", "b", None, ("not", ("had", "own"))),
        )
        clauses = (
            ("fee", "first", "last", 1, 1),
            ("free", "second", "third", ("broken", "last"), ("broken", "third")),
            ("duty", "third", "a", "b", ("send", ("one",)), ("days", 1), ("done", "last"), ("owes", "third"), True),
            ("duty", "last", "a", "b", ("pay", ("coins", 1)), ("days", 1), ("done", "last"), None, False),
        )
        self.right((("a", "b"), REST, words, clauses))


class Forms(Checks):
    def test_odd_things(self):
        for thing in odd_things():
            self.wrong(thing, ("form",) if not isinstance(thing, tuple) or len(thing) != 4 else ("parties",))

    def test_a_tuple_of_four(self):
        self.wrong(list(agreement()), ("form",))
        self.wrong(agreement()[:3], ("form",))
        self.wrong(agreement() + (None,), ("form",))
        self.wrong({key: True for key in agreement()}, ("form",))
        self.wrong((), ("form",))
        self.wrong((1, 2, 3, 4), ("parties",))
        self.wrong((None, None, None, None), ("parties",))

    def test_odd_parts(self):
        for thing in odd_things():
            self.wrong(agreement(parties=thing), ("parties",))
            self.wrong(agreement(rest=thing), ("rest",))
            # A tuple of something is a tuple of words, and its first one is none.
            wide = isinstance(thing, tuple) and thing
            self.wrong(agreement(words=thing), ("word", 0) if wide else ("words",))
            self.wrong(agreement(clauses=thing), ("clause", 0) if wide else ("clauses",))
            self.wrong(agreement(words=WORDS + (thing,)), LAST_WORD)
            self.wrong(agreement(clauses=CLAUSES[:-1] + (thing,)), LAST_CLAUSE)

    def test_the_first_of_several(self):
        parts = [(), (), (), ()]
        for at, place in enumerate([("parties",), ("rest",), ("words",), ("clauses",)]):
            self.wrong(tuple(parts), place)
            parts[at] = agreement()[at]
        bad_words = agreement(words=(WORDS[0], None, None) + WORDS[1:], clauses=())
        self.wrong(bad_words, ("word", 1))
        self.wrong(agreement(clauses=CLAUSES[:2] + (None, None)), ("clause", 2))


class Parties(Checks):
    def some(self, parties):
        words = (("w", parties[0], None, None),)
        return (parties, NO_REST, words, (("end", "e", ("day", 0), None),))

    def test_two_to_four(self):
        self.right(self.some(("p", "q")))
        self.right(self.some(("p", "q", "r")))
        self.right(self.some(("p", "q", "r", "s")))
        self.wrong(self.some(("p",)), ("parties",))
        self.wrong(self.some(("p", "q", "r", "s", "t")), ("parties",))
        self.wrong(agreement(parties=()), ("parties",))

    def test_unlike(self):
        self.wrong(self.some(("p", "p")), ("parties",))
        self.wrong(self.some(("p", "q", "r", "q")), ("parties",))

    def test_names(self):
        self.right(self.some(("abcdefgh", "z")))
        self.wrong(self.some(("abcdefghi", "z")), ("parties",))
        for word in LANGUAGE_WORDS:
            self.wrong(self.some(("p", word)), ("parties",))
        for thing in odd_things():
            self.wrong(self.some(("p", thing)), ("parties",))

    def test_tuples_alone(self):
        self.wrong(self.some(["p", "q"]), ("parties",))
        self.wrong(agreement(parties="ab"), ("parties",))
        self.wrong(agreement(parties={"ann": 1, "bob": 2, "cat": 3}), ("parties",))


class Rests(Checks):
    def test_rests(self):
        self.right(agreement(rest=((0, 2, 4, 6), tuple(range(20)))))
        self.wrong(agreement(rest=((0, 1, 2, 3, 4), ())), ("rest",))
        self.wrong(agreement(rest=((), tuple(range(21)))), ("rest",))
        self.wrong(agreement(rest=((), (3001,))), ("rest",))
        self.wrong(agreement(rest=((True,), ())), ("rest",))
        self.wrong(agreement(rest=[(), ()]), ("rest",))


class Words(Checks):
    def test_one_to_eight(self):
        clauses = (("end", "stop", ("day", 0), None),)
        for many in range(1, 9):
            words = tuple((name, "ann", None, None) for name in letters(many))
            self.right(agreement(words=words, clauses=clauses))
        words = tuple((name, "ann", None, None) for name in letters(9))
        self.wrong(agreement(words=words), ("words",))
        self.wrong(agreement(words=()), ("words",))
        self.wrong(agreement(words=list(WORDS)), ("words",))

    def test_form(self):
        word = ("extra", "ann", None, None)
        self.right(with_word(word))
        for thing in (list(word), word[:3], word + (None,), (), "extra", {"extra": 1}):
            self.wrong(with_word(thing), LAST_WORD)

    def test_names(self):
        self.right(with_word(("a", "ann", None, None)))
        self.right(with_word(("abcdefgh", "ann", None, None)))
        self.wrong(with_word(("abcdefghi", "ann", None, None)), LAST_WORD)
        for thing in LANGUAGE_WORDS + odd_things():
            self.wrong(with_word((thing, "ann", None, None)), LAST_WORD)

    def test_a_name_that_stands_already(self):
        for name in PARTIES + tuple(word[0] for word in WORDS):
            self.wrong(with_word((name, "ann", None, None)), LAST_WORD)
        # The one behind is the wrong one, whatever is wrong by the names in the one ahead.
        one = ("same", "ann", None, ("had", "nothing"))
        self.wrong(agreement(words=(one, WORDS[0], one) + WORDS[1:]), ("word", 2))

    def test_sender_and_payee(self):
        for sender in PARTIES:
            for payee in PARTIES + (None,):
                if sender == payee:
                    self.wrong(with_word(("extra", sender, payee, None)), LAST_WORD)
                else:
                    self.right(with_word(("extra", sender, payee, None)))
        for thing in ["dan", "ask", "give"] + odd_things():
            self.wrong(with_word(("extra", thing, None, None)), LAST_WORD)
            if thing is not None:
                self.wrong(with_word(("extra", "ann", thing, None)), LAST_WORD)


class Conditions(Checks):
    def both(self, condition, right=True):
        """Looks at a condition wherever one may stand."""
        word = with_condition(condition)
        free = with_clause(("free", "extra", "give", ("day", 1), condition))
        end = with_clause(("end", "extra", ("day", 1), condition))
        send = ("send", ("ask",))
        duty = with_clause(("duty", "extra", "ann", "bob", send, ("days", 1), ("day", 1), condition, False))
        for thing, place in ((word, LAST_WORD), (free, LAST_CLAUSE), (end, LAST_CLAUSE), (duty, LAST_CLAUSE)):
            if right:
                self.right(thing)
            else:
                self.wrong(thing, place)

    def test_each_kind(self):
        for condition in (
            None, ("had", "ask"), ("had", "cash"), ("owes", "give"), ("broken", "late"), ENDED, ("before", 0),
            ("before", 3000), ("not", ENDED), ("all", ENDED, ENDED), ("any", ("before", 1), ENDED),
        ):
            self.both(condition)

    def test_two_to_four_parts(self):
        for word in ("all", "any"):
            for many in range(7):
                self.both((word,) + (ENDED,) * many, 2 <= many <= 4)

    def test_four_within_one_another(self):
        for depth in range(1, 5):
            self.both(knots(depth))
        self.both(knots(5), False)
        self.both(knots(9), False)
        self.both(("all", ENDED, knots(3)))
        self.both(("all", ENDED, knots(4)), False)
        self.both(("any", ("all", ("any", ENDED, ENDED), ENDED), ENDED))
        self.both(("any", ENDED, ("all", ("any", ENDED, knots(1)), ENDED)))
        self.both(("any", ENDED, ("all", ("any", ENDED, knots(2)), ENDED)), False)

    def test_days(self):
        for thing in (-1, 3001, True, False, None, "1", BIG, (1,), [1]):
            self.both(("before", thing), False)

    def test_form(self):
        for thing in (
            (), ("ended", 1), ("ended", ENDED), ("had",), ("had", "ask", "tell"), ("not",), ("not", ENDED, ENDED),
            ("before",), ("before", 1, 2), ("owes",), ("broken", "give", "late"), ("not", None), ("all", ENDED, None),
            ("any", None, None), ("all", (ENDED, ENDED)), ["ended"], ["had", "ask"], ("not", ["ended"]), "ended",
            ("none", "ask"), ("letter", "ask"), ("done", "give"), ("day", 1), ("Had", "ask"), (ENDED,), (None,),
            (["had"], "ask"), ({}, 1), (True, "ask"), ("every", 1, 2), {"had": "ask"},
        ):
            self.both(thing, False)

    def test_odd_things(self):
        for thing in odd_things():
            if thing is not None:
                self.both(thing, False)
            for word in ("had", "owes", "broken", "not", "before"):
                self.both((word, thing), False)
            self.both(("all", ENDED, thing), False)
            self.both((thing, "ask"), False)

    def test_words_of_the_language_in_the_place_of_a_name(self):
        for name in LANGUAGE_WORDS:
            for word in ("had", "owes", "broken"):
                self.both((word, name), False)

    def test_names_that_are_not_there_or_of_another_kind(self):
        for word in WORDS:
            self.both(("had", word[0]))
            self.both(("owes", word[0]), False)
            self.both(("broken", word[0]), False)
        for clause in CLAUSES[:-1]:
            self.both(("had", clause[1]), False)
            self.both(("owes", clause[1]), clause[0] == "duty")
            self.both(("broken", clause[1]), clause[0] == "duty")
        for name in PARTIES + ("nowhere",):
            for word in ("had", "owes", "broken"):
                self.both((word, name), False)
                self.both(("not", ("all", ENDED, (word, name))), False)


class Sizes(Checks):
    def test_one_to_twelve_clauses(self):
        for many in range(1, 13):
            clauses = tuple(("end", name, ("day", 0), None) for name in letters(many))
            self.right(agreement(words=WORDS[:1], clauses=clauses))
        clauses = tuple(("end", name, ("day", 0), None) for name in letters(13))
        self.wrong(agreement(words=WORDS[:1], clauses=clauses), ("clauses",))
        self.wrong(agreement(clauses=()), ("clauses",))
        self.wrong(agreement(clauses=list(CLAUSES)), ("clauses",))
