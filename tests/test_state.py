"""Promise 13: what is told of a State, in which order and form; what is refused."""

import unittest

from dealtongue.agreements import first_wrong
from dealtongue.errors import NoAgreement, NoCondition, NoDay, NoLetters
from dealtongue.quicker import quick, quick_on
from dealtongue.reckoner import State, reckoned
from tests.makers import made
from tests.oracle import told_of
from tests.reckons import Reckons, deal, said
from tests.samples import NO_DAYS, agreement, odd_things

# Places go against the order of names.
WHOLE = deal(
    "fee zfee : 2 at most 7 for settle",
    "duty settle : ann must pay 9 coins to bob within 2 days after every 2 from 3",
    "duty give : bob must send note to ann within 1 days after day 4",
    "duty alpha : ann must send ask to cat within 20 days after day 4",
    "fee afee : 1 at most 1 for settle",
    "free spare : alpha after letter back",
)
LETTERS = said("6 back 3", "6.2 cash 8", "1 ask")
AT_8 = {
    "day": 8,
    "ended": None,
    "things": [("settle", 1, 3, 5, "late", 5, 1), ("settle", 2, 5, 7, "late", 7, 9), ("give", 1, 4, 5, "late", 5, 0),
               ("alpha", 1, 4, 24, "freed", 6, 0)],
    "broken": [("settle", 1, 5), ("settle", 2, 7), ("give", 1, 5)],
    "fees": [("zfee", 1, 6, 0), ("zfee", 2, 2, 0), ("afee", 1, 1, 0), ("afee", 2, 1, 0)],
    "owed": [("ann", "bob", ("coins",), 5, 1), ("ann", "bob", ("coins",), 5, 1), ("ann", "bob", ("coins",), 5, 6),
             ("ann", "bob", ("coins",), 7, 1), ("ann", "bob", ("coins",), 7, 2), ("ann", "bob", ("coins",), 7, 9),
             ("bob", "ann", ("note",), 5, 0)],
    "may": ["ask", "back", "cash", "note"],
    "had": ["ask", "back", "cash"],
    "put_by": {("bob", "ann"): 3},
}


def forms(told):
    """Tells of what kinds the things are that are told, all the way down."""
    if isinstance(told, dict):
        return ("dict", [(forms(key), forms(told[key])) for key in told])
    if isinstance(told, (list, tuple)):
        return (type(told).__name__, [forms(part) for part in told])
    return type(told).__name__


class Told(Reckons):
    def test_all_of_it(self):
        state = self.state(WHOLE, LETTERS, 8)
        self.assertEqual(told_of(state), AT_8)
        self.assertEqual(forms(told_of(state)), forms(AT_8))

    def test_the_fees_place_ahead_of_its_things(self):
        """8 coins on day 6: the fees of the first thing had not grown yet; ahead of 12 the first fee is paid."""
        state = self.state(WHOLE, said("8.1 cash 12"), 8)
        self.assertEqual(state.fees(), [("zfee", 1, 6, 4), ("zfee", 2, 2, 0), ("afee", 1, 1, 0), ("afee", 2, 1, 0)])
        self.assertEqual(state.things()[0], ("settle", 1, 3, 5, "late", 5, 1))

    def test_of_nothing(self):
        state = self.state(deal("end over : after day 3000"), [], 0)
        self.assertEqual(told_of(state), {
            "day": 0, "ended": None, "things": [], "broken": [], "fees": [], "owed": [],
            "may": ["ask", "back", "cash", "note"], "had": [], "put_by": {}})
        self.assertEqual(forms(told_of(state)), forms({
            "day": 0, "ended": None, "things": [], "broken": [], "fees": [], "owed": [], "may": ["x"] * 4, "had": [],
            "put_by": {}}))

    def test_day_and_ended(self):
        whole = deal("end over : after day 4")
        for day, ended in ((0, None), (3, None), (4, 4), (5, 4), (3000, 4)):
            state = self.state(whole, [], day)
            self.assertEqual((state.day, state.ended), (day, ended))
            self.assertIs(type(state.day), int)
        self.assertEqual(self.state(deal("end over : after day 0"), [], 0).ended, 0)

    def test_how_and_on(self):
        whole = deal(*[f"duty {name} : ann must pay 5 coins to bob within {days} days after day 2"
                       for name, days in (("one", 2), ("two", 9), ("three", 5), ("four", 30))],
                     "free spare : two after day 6")
        self.assertEqual(self.state(whole, said("3 cash 5", "5 cash 1"), 8).things(), [
            ("one", 1, 2, 4, "done", 3, 0), ("two", 1, 2, 11, "freed", 6, 5), ("three", 1, 2, 7, "late", 7, 4),
            ("four", 1, 2, 32, "open", 2, 5)])

    def test_broken_in_the_order_of_things(self):
        whole = deal("duty zeta : ann must send ask to bob within 2 days after every 1 from 2",
                     "duty alpha : ann must send ask to bob within 1 days after day 2")
        self.assertEqual(self.state(whole, [], 5).broken(), [("zeta", 1, 4), ("zeta", 2, 5), ("alpha", 1, 3)])

    def test_owed_rising(self):
        parties, rest, words, _ = deal("end over : after day 9")
        words += (("tell", "ann", None, None),)
        clauses = (
            ("duty", "zeta", "cat", "ann", ("pay", ("coins", 5)), ("days", 1), ("day", 1), None, False),
            ("duty", "one", "ann", "cat", ("send", ("tell", "ask")), ("days", 3), ("day", 1), None, False),
            ("duty", "two", "ann", "bob", ("send", ("tell",)), ("days", 3), ("day", 1), None, False),
            ("duty", "three", "ann", "bob", ("send", ("ask", "tell")), ("days", 2), ("day", 1), None, False),
            ("duty", "four", "ann", "bob", ("pay", ("coins", 4)), ("days", 9), ("every", 1, 1), None, False),
        )
        words += (("gift", "cat", "ann", None),)
        state = self.state((parties, rest, words, clauses), said("2 cash 1"), 2)
        self.assertEqual(state.owed(), [
            ("ann", "bob", ("ask", "tell"), 3, 0), ("ann", "bob", ("coins",), 10, 3), ("ann", "bob", ("coins",), 11, 4),
            ("ann", "bob", ("tell",), 4, 0), ("ann", "cat", ("tell", "ask"), 4, 0), ("cat", "ann", ("coins",), 2, 5)])

    def test_may_by_the_states_day(self):
        parties, rest, _, clauses = deal("duty one : ann must send ask to bob within 1 days after day 3")
        words = (("zeta", "bob", None, ("before", 4)), ("ask", "ann", None, ("not", ("before", 4))),
                 ("cash", "ann", "bob", ("owes", "one")), ("back", "bob", "ann", ("broken", "one")))
        whole = (parties, rest, words, clauses)
        self.assertEqual(self.state(whole, [], 2).may(), ["zeta"])
        self.assertEqual(self.state(whole, [], 3).may(), ["cash", "zeta"])
        self.assertEqual(self.state(whole, [], 4).may(), ["ask", "back", "cash"])
        self.assertEqual(self.state(whole, [(4, 1, "ann", "ask", 0)], 4).may(), ["ask"])

    def test_new_lists_and_dicts(self):
        for state in (reckoned(WHOLE, LETTERS, 8), quick(WHOLE, LETTERS, 8),
                      quick_on(WHOLE, LETTERS, quick(WHOLE, LETTERS, 3), 8)):
            for ask in (state.things, state.broken, state.fees, state.owed, state.may, state.had):
                told = ask()
                self.assertIsNot(ask(), told)
                told.reverse()
                told.append("more")
                del told[0]
                ask().clear()
            state.put_by().clear()
            state.put_by()["ann", "bob"] = 5
            self.assertEqual(told_of(state), AT_8)

    def test_the_lists_of_letters_are_not_kept(self):
        letters = list(LETTERS)
        state = quick(WHOLE, letters, 8)
        letters.clear()
        self.assertEqual(told_of(state), AT_8)


class Holds(Reckons):
    def test_each_kind(self):
        whole = deal("duty give : bob must send note to ann within 1 days after day 4",
                     "duty settle : ann must pay 9 coins to bob within 20 days after day 2",
                     "duty never : ann must pay 9 coins to bob within 20 days after day 3000",
                     "end over : after letter back")
        letters = said("3 ask", "6 note", "7 back 1", "8 ask 1")
        for condition, days in (
            (("had", "ask"), range(3, 10)), (("had", "cash"), ()), (("had", "note"), range(6, 10)),
            (("owes", "give"), (4, 5)), (("owes", "settle"), range(2, 7)), (("owes", "never"), ()),
            (("broken", "give"), range(5, 10)), (("broken", "settle"), ()), (("ended",), range(7, 10)),
            (("before", 0), ()), (("before", 5), range(5)), (("before", 6), range(6)), (("before", 3000), range(10)),
            (("not", ("ended",)), range(7)), (("all", ("owes", "settle"), ("had", "ask")), range(3, 7)),
            (("any", ("owes", "give"), ("ended",)), (4, 5, 7, 8, 9)), (("any", ("before", 2), ("before", 1)), (0, 1)),
            (("all", ("before", 6), ("before", 7), ("had", "ask"), ("not", ("owes", "give"))), (3,)),
            (("any", ("ended",), ("ended",), ("ended",), ("before", 1)), (0, 7, 8, 9)),
            (("not", ("all", ("before", 5), ("any", ("before", 4), ("had", "ask")))), range(5, 10)),
        ):
            for day in range(10):
                told = self.state(whole, letters, day).holds(condition)
                self.assertIs(told, day in days, (condition, day))

    def test_what_is_no_condition_of_the_agreement(self):
        state = reckoned(WHOLE, LETTERS, 8)
        five = ("not", ("not", ("not", ("not", ("ended",)))))
        for thing in odd_things() + [
            None, "ended", ["ended"], ("had",), ("had", "nowhere"), ("had", "settle"), ("had", "ann"), ("had", "zfee"),
            ("owes", "ask"), ("owes", "zfee"), ("owes", "spare"), ("owes", "bob"), ("broken", "nowhere"),
            ("broken", "note"),
            ("before", 3001), ("before", -1), ("before", True), ("before", "8"), ("not", None), ("not",),
            ("all", ("ended",)),
            ("any",) + (("ended",),) * 5, five, ("not", ("had", "nowhere")), ("all", ("ended",), ("owes", "nowhere")),
            ("any", ("ended",), ("not", ("broken", "ask"))), ("ended", "x"), ("day", 1), ("letter", "ask"), "had ask",
            ("all", ("ended",), ["ended"]), ("had", ["ask"]), ("had", {}), ("owes", None), ("before", None),
        ]:
            with self.assertRaises(NoCondition):
                state.holds(thing)
        self.assertIs(state.holds(five[1]), True)
        self.assertEqual(told_of(state), AT_8)


class Equal(unittest.TestCase):
    def test_equal_ones(self):
        state = reckoned(WHOLE, LETTERS, 8)
        for other in (state, reckoned(WHOLE, LETTERS[::-1], 8), quick(WHOLE, LETTERS, 8),
                      reckoned(WHOLE, LETTERS + said("9 note"), 8),
                      quick_on(WHOLE, LETTERS, quick(WHOLE, LETTERS, 7), 8),
                      reckoned(WHOLE, LETTERS + said("8 ask 1"), 8)):
            self.assertIs(state == other, True)
            self.assertIs(state != other, False)
            self.assertIs(other == state, True)

    def test_of_another_agreement_of_which_the_same_is_told(self):
        one = deal("end over : after day 5")
        other = deal("end stop : after day 6 while ended", "end over : after day 5")
        self.assertTrue(reckoned(one, [], 9) == reckoned(other, [], 9))
        self.assertTrue(reckoned(one, [], 4) == reckoned(other, [], 4))

    def test_unlike_ones(self):
        """Each thing that is told parts two States by itself, where it can."""
        rows = ("duty give : ann must send ask to bob within 2 days after day 3",)
        one = quick(deal(*rows), said("1 cash 5"), 4)
        for other in (
            quick(deal(*rows), said("1 cash 5"), 3),
            quick(deal(*rows), said("1 cash 6"), 4),
            quick(deal(*rows), said("1 cash 5", "2 note"), 4),
            quick(deal(*rows), said("1 cash 5", "4 ask"), 4),
            quick(deal(*rows, "end over : after day 2"), said("1 cash 5"), 4),
            quick(deal(rows[0] + " stays", "end over : after day 4"), said("1 cash 5"), 4),
            quick(deal(rows[0].replace("give", "gives")), said("1 cash 5"), 4),
            quick(deal(rows[0].replace("2 days", "3 days")), said("1 cash 5"), 4),
            quick(deal(rows[0].replace("to bob", "to cat")), said("1 cash 5"), 4),
            quick(deal(rows[0].replace("2 days", "1 days")), said("1 cash 5"), 4),
            quick(deal(*rows, "duty more : ann must send ask to bob within 2 days after day 4"), said("1 cash 5"), 4),
        ):
            self.assertIs(one == other, False)
            self.assertIs(other == one, False)
            self.assertIs(one != other, True)

    def test_each_thing_that_is_told_alone(self):
        """States that are told alike but for one thing."""
        head = "duty give : ann must send ask to {} within 2 days after day 3"
        fee = "fee slow : {} at most 9 for give"
        word = "word extra by bob"
        for one, other, unlike in (
            ((head.format("bob"),), (head.format("cat"),), {"owed"}),
            ((head.format("bob"), fee.format(2)), (head.format("bob"), fee.format(3)), {"fees", "owed"}),
            ((word, head.format("bob")), (word + " while ended", head.format("bob")), {"may"}),
            (("end over : after day 3",), ("end over : after day 9",), {"ended"}),
            (("end over : after day 3",), ("end over : after day 4",), {"ended"}),
        ):
            states = [reckoned(self.with_words(rows), said("1 cash 5"), 6) for rows in (one, other)]
            told = [told_of(state) for state in states]
            self.assertEqual({name for name in told[0] if told[0][name] != told[1][name]}, unlike)
            self.assertIs(states[0] == states[1], False)
        whole = deal("end over : after day 3000")
        for one, other, unlike in (
            (said("1 cash 5"), said("1 cash 6"), {"put_by"}),
            (said("1 ask"), said("1 note"), {"had"}),
            (said("1 ask"), [], {"had"}),
        ):
            states = [reckoned(whole, letters, 6) for letters in (one, other)]
            told = [told_of(state) for state in states]
            self.assertEqual({name for name in told[0] if told[0][name] != told[1][name]}, unlike)
            self.assertIs(states[0] == states[1], False)
        self.assertIs(reckoned(whole, [], 5) == reckoned(whole, [], 6), False)

    def with_words(self, rows):
        """The agreement of these rows, that may have words among them."""
        words = [row for row in rows if row.startswith("word")]
        return deal(*words, *[row for row in rows if not row.startswith("word")])

    def test_things_alone(self):
        """A thing freed ahead of its day due."""
        head = "duty give : ann must send ask to bob within {} days after day 3"
        states = [reckoned(deal(head.format(days), "free spare : give after day 4"), [], 5) for days in (2, 3)]
        told = [told_of(state) for state in states]
        self.assertEqual([name for name in told[0] if told[0][name] != told[1][name]], ["things"])
        self.assertIs(states[0] == states[1], False)

    def test_fees_alone(self):
        """A fee of a freed thing, paid whole."""
        rows = ("duty give : ann must send ask to bob within 1 days after day 1", "free spare : give after day 4")
        states = [reckoned(deal(*rows, f"fee slow : {each} at most 9 for give"), said(f"5 cash {each}"),
                           5) for each in (2, 3)]
        told = [told_of(state) for state in states]
        self.assertEqual([name for name in told[0] if told[0][name] != told[1][name]], ["fees"])
        self.assertIs(states[0] == states[1], False)

    def test_broken_alone(self):
        """A thing freed on its day due, ahead of the evening or by it."""
        rows = ("duty give : ann must send ask to bob within 2 days after day 3",)
        states = [reckoned(deal(*rows, f"free spare : give after {trigger}"), [], 5) for trigger in ("day 5",
                                                                                                     "broken give")]
        told = [told_of(state) for state in states]
        self.assertEqual([name for name in told[0] if told[0][name] != told[1][name]], ["broken"])
        self.assertIs(states[0] == states[1], False)

    def test_what_is_no_state(self):
        state = reckoned(WHOLE, LETTERS, 8)
        for thing in odd_things() + [told_of(state), State, 8, "State", object(), state.things(), (8, None)]:
            self.assertIs(state == thing, False)
            self.assertIs(thing == state, False)
            self.assertIs(state != thing, True)

    def test_states_of_made_agreements(self):
        states = [reckoned(*made(seed), day) for seed in range(12) for day in (0, 20, 60)]
        told = [told_of(state) for state in states]
        for one, state in enumerate(states):
            for other, another in enumerate(states):
                self.assertIs(state == another, told[one] == told[other])


class Refused(unittest.TestCase):
    def functions(self):
        return [reckoned, quick]

    def test_what_is_no_agreement(self):
        for function in self.functions():
            for thing in odd_things() + [list(WHOLE), agreement(words=()),
                                         WHOLE[:3] + ((("end", "x", ("ended",), None),),)]:
                for letters, day in (([], 3), (None, None), ((), 3), ([], -1)):
                    with self.assertRaises(NoAgreement) as caught:
                        function(thing, letters, day)
                    self.assertEqual(caught.exception.place, first_wrong(thing))

    def test_what_are_no_letters(self):
        letter = LETTERS[0]
        for function in self.functions():
            for thing in [odd for odd in odd_things() if odd != []] + [
                (), tuple(LETTERS), [letter, letter], [list(letter)], [letter[:4]], [letter + (0,)], {letter: 1},
                letter,
                [(0, 1, "ann", "ask", 0)] * 2, [(day, 1, "ann", "ask", 0) for day in range(61)],
                [(3001, 1, "a", "b", 0)],
            ]:
                for day in (3, None, -1, 3001):
                    with self.assertRaises(NoLetters):
                        function(WHOLE, thing, day)

    def test_what_is_no_day(self):
        for function in self.functions():
            for thing in NO_DAYS:
                with self.assertRaises(NoDay):
                    function(WHOLE, LETTERS, thing)

    def test_first_and_last_day(self):
        for function in self.functions():
            self.assertEqual(function(WHOLE, LETTERS, 0).day, 0)
            self.assertEqual(function(WHOLE, LETTERS, 3000).day, 3000)

    def test_sixty_letters(self):
        letters = [(day, 99, "ann", "ask", 0) for day in range(60)]
        for function in self.functions():
            self.assertEqual(function(WHOLE, letters, 59).had(), ["ask"])

    def test_letters_of_words_of_the_language(self):
        letters = [(1, 1, "duty", "coins", 3), (1, 2, "while", "ask", 0), (1, 3, "ann", "word", 0)]
        self.assertEqual(reckoned(WHOLE, letters, 5), reckoned(WHOLE, [], 5))
