"""Promises 16 and 17: chains of causes, conditions weighed, why letters are idle."""

import unittest

from dealtongue.causes import chain, idle_why, is_chain, weighed
from dealtongue.errors import NoCondition, NoHappening, NoLetterThere
from tests.makers import made
from tests.oracle import Oracle
from tests.reckons import Refuses, deal, said
from tests.samples import BIG, odd_things

GIVE = "duty give : ann must send ask to bob within 2 days after "
PAY = "duty settle : ann must pay 9 coins to bob within 2 days after "
WHOLE = deal(GIVE + "day 3", "duty more : bob must send note to ann within 3 days after broken give",
             "end over : after done more")


class Chain(unittest.TestCase):
    maxDiff = None

    def chained(self, agreement, letters, day, *links):
        told = list(links)
        self.assertEqual(chain(agreement, letters, day, links[0][0]), told)
        self.assertIs(is_chain(agreement, letters, day, told), True)
        if links[0][1] > 0:
            with self.assertRaises(NoHappening):
                chain(agreement, letters, links[0][1] - 1, links[0][0])
            self.assertIs(is_chain(agreement, letters, links[0][1] - 1, told), False)

    def test_of_a_day_and_a_letter(self):
        self.chained(WHOLE, [], 9, (("day", 0), 0, None))
        self.chained(WHOLE, [], 9, (("day", 9), 9, None))
        self.chained(WHOLE, [], 3000, (("day", 3000), 3000, None))
        self.chained(WHOLE, said("4.7 ask"), 9, (("counts", 4, 7), 4, None))

    def test_of_brought(self):
        day = (("day", 3), 3, None)
        self.chained(WHOLE, [], 9, (("brought", "give", 1), 3, "give"), day)
        self.chained(deal(GIVE + "every 2 from 1"), [], 9, (("brought", "give", 2), 3, "give"), day)
        self.chained(deal(GIVE + "letter note"), said("4 note", "4.5 note"), 9,
                     (("brought", "give", 2), 4, "give"), (("counts", 4, 5), 4, None))
        broken = [(("broken", "give", 1), 5, None), (("brought", "give", 1), 3, "give"), day]
        self.chained(WHOLE, [], 9, (("brought", "more", 1), 5, "more"), *broken)
        whole = deal(GIVE + "day 3", "duty more : bob must send note to ann within 3 days after done give")
        self.chained(whole, said("4 ask"), 9, (("brought", "more", 1), 4, "more"), (("done", "give", 1), 4, None),
                     (("counts", 4, 1), 4, None))
        whole = deal(GIVE + "ended", "end over : after letter note")
        self.chained(whole, said("4 note"), 9, (("brought", "give", 1), 4, "give"), (("ended",), 4, "over"),
                     (("counts", 4, 1), 4, None))

    def test_of_done(self):
        self.chained(WHOLE, said("4 ask"), 9, (("done", "give", 1), 4, None), (("counts", 4, 1), 4, None))
        whole = deal(PAY + "day 3")
        self.chained(whole, said("4.1 cash 4", "4.2 cash 5"), 9, (("done", "settle", 1), 4, None),
                     (("counts", 4, 2), 4, None))

    def test_of_done_by_coins_put_by(self):
        """The last letter ahead with coins of the two, whichever coins they were."""
        whole = deal(PAY + "day 3")
        self.chained(whole, said("1 cash 9"), 9, (("done", "settle", 1), 3, None), (("counts", 1, 1), 1, None))
        letters = said("0 cash 20", "1 cash 9", "2.1 ask", "2.2 back 5", "5 cash 3") + [(2, 3, "bob", "cash", 9)]
        self.chained(whole, letters, 9, (("done", "settle", 1), 3, None), (("counts", 1, 1), 1, None))
        whole = deal("duty settle : ann must pay 9 coins to bob within 2 days after letter note")
        letters = said("0 cash 20", "3.1 note", "3.2 cash 1")
        self.chained(whole, letters, 9, (("done", "settle", 1), 3, None), (("counts", 3, 2), 3, None))

    def test_of_broken(self):
        self.chained(WHOLE, [], 9, (("broken", "give", 1), 5, None), (("brought", "give", 1), 3, "give"),
                     (("day", 3), 3, None))
        # Also where it was done or freed behind that.
        self.chained(WHOLE, said("7 ask"), 9, (("broken", "give", 1), 5, None), (("brought", "give", 1), 3, "give"),
                     (("day", 3), 3, None))

    def test_of_freed_by_a_clause(self):
        rows = ["free zeta : give after letter note", "free alpha : give after letter note"]
        for first, whole in (("zeta", deal(GIVE + "day 3", *rows)), ("alpha", deal(*rows[::-1], GIVE + "day 3"))):
            self.chained(whole, said("4 note"), 9, (("freed", "give", 1), 4, first), (("counts", 4, 1), 4, None))
        whole = deal(GIVE + "day 3", "free late : give after letter note while ended", rows[0])
        self.chained(whole, said("4 note"), 9, (("freed", "give", 1), 4, "zeta"), (("counts", 4, 1), 4, None))
        self.chained(deal(GIVE + "day 3", "free spare : give after every 2 from 0"), [], 9,
                     (("freed", "give", 1), 4, "spare"), (("day", 4), 4, None))

    def test_of_freed_by_the_end(self):
        whole = deal(GIVE + "day 3", "end over : after day 4")
        self.chained(whole, [], 9, (("freed", "give", 1), 4, None), (("ended",), 4, "over"), (("day", 4), 4, None))
        whole = deal(GIVE + "day 3", "end over : after day 4", "free spare : give after day 4")
        self.chained(whole, [], 9, (("freed", "give", 1), 4, "spare"), (("day", 4), 4, None))

    def test_of_ended(self):
        rows = ["end zeta : after letter note while had ask", "end beta : after letter note",
                "end alpha : after letter note"]
        self.chained(deal(*rows), said("4 note"), 9, (("ended",), 4, "beta"), (("counts", 4, 1), 4, None))
        self.chained(deal(*rows), said("3 ask", "4 note"), 9, (("ended",), 4, "zeta"), (("counts", 4, 1), 4, None))
        self.chained(deal(*rows[::-1]), said("4 note", "5 note"), 9, (("ended",), 4, "alpha"),
                     (("counts", 4, 1), 4, None))

    def test_of_several_causes_in_one_phase_the_first(self):
        rows = ["duty give : ann must send ask to bob within 5 days after letter note",
                "free spare : other after broken give", "end over : after broken give",
                "duty other : bob must send note to cat within 30 days after day 0",
                "duty more : bob must send note to ann within 9 days after broken give"]
        letters = said("3.1 note", "3.2 note")
        day = (("counts", 3, 1), 3, None)
        broken = [(("broken", "give", 1), 8, None), (("brought", "give", 1), 3, "give"), day]
        self.chained(deal(*rows), letters, 9, (("ended",), 8, "over"), *broken)
        self.chained(deal(*rows[:2], *rows[3:]), letters[:1] + said("3.2 note", "4 note"), 9,
                     (("brought", "more", 1), 8, "more"), *broken)
        self.chained(deal(*rows[:2], *rows[3:]), letters, 9, (("brought", "more", 2), 8, "more"),
                     (("broken", "give", 2), 8, None), (("brought", "give", 2), 3, "give"), (("counts", 3, 2), 3, None))
        whole = deal(*rows[:2], "duty other : bob must send note to cat within 30 days after day 4")
        self.chained(whole, letters, 9, (("freed", "other", 1), 8, "spare"), *broken)

    def test_many_links_over_many_days(self):
        whole = deal("duty seed : ann must send ask to bob within 1 days after day 1",
                     "duty give : ann must send ask to bob within 1 days after broken seed",
                     "duty more : bob must send note to ann within 9 days after done give",
                     "duty again : ann must send ask to bob within 9 days after done more",
                     "duty then : bob must send note to ann within 9 days after done again",
                     "end over : after done then",
                     "duty last : ann must send ask to cat within 4 days after ended")
        letters = said("2.1 ask", "3.1 ask", "5 note", "9 ask", "12 note")
        # The letter on day 2 does the seed in time.
        with self.assertRaises(NoHappening):
            chain(whole, letters, 30, ("broken", "seed", 1))
        letters = said("3.1 ask", "3.2 ask", "5 note", "9 ask", "12 note")
        self.chained(whole, letters, 30, (("broken", "last", 1), 16, None), (("brought", "last", 1), 12, "last"),
                     (("ended",), 12, "over"), (("done", "then", 1), 12, None), (("counts", 12, 1), 12, None))
        self.chained(whole, [], 30, (("broken", "give", 1), 3, None), (("brought", "give", 1), 2, "give"),
                     (("broken", "seed", 1), 2, None), (("brought", "seed", 1), 1, "seed"), (("day", 1), 1, None))
        ring = deal("duty seed : ann must send ask to bob within 1 days after day 0",
                    "duty one : ann must send ask to bob within 30 days after broken seed",
                    "duty two : ann must send ask to bob within 30 days after broken one",
                    "duty three : ann must send ask to bob within 30 days after broken two",
                    "duty four : ann must send ask to bob within 30 days after broken three",
                    "duty five : ann must send ask to bob within 30 days after broken four")
        self.assertEqual(len(chain(ring, [], 3000, ("broken", "five", 1))), 13)

    def test_made_ones(self):
        seen = {}
        for seed in range(80):
            agreement, letters = made(seed)
            oracle = Oracle(agreement, letters)
            oracle.days(60)
            for happening in oracle.why:
                told = chain(agreement, letters, 60, happening)
                self.assertEqual(told, oracle.chain(happening))
                self.assertIn(told[-1][0][0], ("day", "counts"))
                self.assertTrue(is_chain(agreement, letters, 60, told))
                seen[happening[0]] = seen.get(happening[0], 0) + 1
        self.assertEqual(len(seen), 6)
        self.assertGreater(min(seen.values()), 10)


class NoHappenings(unittest.TestCase):
    def test_what_did_not_happen_or_is_none(self):
        whole = deal(GIVE + "day 1", PAY + "day 1", "end over : after letter back")
        letters = said("2.1 ask", "2.2 note", "2.3 cash 0")
        for thing in [
            ("day", -1), ("day", 10), ("day", 3001), ("day", BIG), ("day", True), ("day", "3"), ("day",), ("day", 1, 1),
            ("counts", 2, 3), ("counts", 3, 1), ("counts", 2, True), ("counts", True, 1), ("counts", 2), ("counts",),
            ("brought", "give", 0), ("brought", "give", 2), ("brought", "give", True), ("brought", "over", 1),
            ("brought", "nobody", 1), ("brought", "give", -1), ("brought", "give", BIG), ("brought", "give", "1"),
            ("brought", 1, 1), ("brought", ["give"], 1), ("brought", {}, 1), ("brought", None, 1), ("brought", "give"),
            ("brought", "give", 1, 1), ("broken", "give", 1), ("done", "settle", 1), ("freed", "give", 1),
            ("done", "give", 2), ("done", "give", True), ("ended",), ("ended", 4), ("end",), ("late", "settle", 1),
            ("open", "settle", 1), ("owes", "settle", 1), (True, "give", 1), (("day", 3),), ["day", 3], "day", 3,
            [("day", 3)], ("day", None), ("had", "ask"), (None, None, None), ([], {}, ()),
        ] + odd_things():
            with self.assertRaises(NoHappening, msg=thing):
                chain(whole, letters, 9, thing)
            self.assertIs(is_chain(whole, letters, 9, [(thing, 3, None)]), False)
        for thing in (("day", 9), ("day", 1), ("counts", 2, 1), ("done", "give", 1), ("broken", "settle", 1)):
            self.assertEqual(chain(whole, letters, 9, thing)[0][0], thing)

    def test_other_words_of_what_became_of_a_thing(self):
        whole = deal(GIVE + "day 1", PAY + "day 1", "free spare : settle after day 2")
        letters = said("2 ask")
        for kind in ("open", "late", "day", "counts", "ended", "free", "do", "Done", "", None, 1):
            for duty in ("give", "settle"):
                with self.assertRaises(NoHappening):
                    chain(whole, letters, 9, (kind, duty, 1))
        self.assertEqual(len(chain(whole, letters, 9, ("freed", "settle", 1))), 2)

    def test_truths_that_equal_numbers_of_what_happened(self):
        whole = deal("duty give : ann must send ask to bob within 2 days after day 0")
        letters = said("1.1 ask")
        for thing in (("day", True), ("day", False), ("counts", True, 1), ("counts", 1, True), ("brought", "give", True),
                      ("done", "give", True)):
            with self.assertRaises(NoHappening):
                chain(whole, letters, 9, thing)


class IsChain(unittest.TestCase):
    def test_of_just_what_chain_tells(self):
        letters = said("6 note")
        told = chain(WHOLE, letters, 9, ("ended",))
        self.assertEqual(len(told), 3)
        longer = chain(WHOLE, letters, 9, ("brought", "more", 1))
        self.assertEqual(len(longer), 4)
        self.assertTrue(is_chain(WHOLE, letters, 9, list(longer)))
        one = longer[0]
        for thing in [
            longer[1:] + longer[:1], longer[:-1], longer[:1], longer[:2] + longer[3:], longer + longer[-1:],
            longer + [(("day", 0), 0, None)], longer[::-1], [], tuple(longer), [list(link) for link in longer],
            [one[:2] + (None,)] + longer[1:], [(one[0], 6, one[2])] + longer[1:], [one[:2]] + longer[1:],
            [one + (None,)] + longer[1:], longer[:-1] + [(("day", 4), 4, None)], longer[:-1] + [(("day", 3), 3, "give")],
            longer[:-1] + [(("day", 3), 3, False)], longer[:-1] + [(("day", 3), 4, None)],
            longer[:-1] + [None], longer[:-1] + [[]], [None] + longer[1:], [()], [((),)], [[]], [{}], [None], [(), ()],
            {0: one}, {}, None, True, 3, "chain", (), dict(enumerate(longer)), [longer],
        ] + odd_things():
            self.assertIs(is_chain(WHOLE, letters, 9, thing), False, thing)
        # What is left of a chain is the chain of its own first happening.
        for at in range(len(longer)):
            self.assertIs(is_chain(WHOLE, letters, 9, longer[at:]), True)

    def test_a_truth_in_the_place_of_a_number(self):
        whole = deal("duty give : ann must send ask to bob within 1 days after day 0")
        self.assertTrue(is_chain(whole, [], 9, [(("broken", "give", 1), 1, None), (("brought", "give", 1), 0, "give"),
                                                (("day", 0), 0, None)]))
        for at, link in ((0, (("broken", "give", True), 1, None)), (0, (("broken", "give", 1), True, None)),
                         (1, (("brought", "give", True), 0, "give")), (1, (("brought", "give", 1), False, "give")),
                         (2, (("day", False), 0, None)), (2, (("day", 0), False, None))):
            told = chain(whole, [], 9, ("broken", "give", 1))
            told[at] = link
            self.assertIs(is_chain(whole, [], 9, told), False, link)
        letters = said("1.1 ask")
        self.assertTrue(is_chain(whole, letters, 9, [(("counts", 1, 1), 1, None)]))
        for link in ((("counts", True, 1), 1, None), (("counts", 1, True), 1, None), (("counts", 1, 1), True, None)):
            self.assertIs(is_chain(whole, letters, 9, [link]), False)


class Weighed(unittest.TestCase):
    def weigh(self, agreement, letters, day, condition, told):
        self.assertEqual(weighed(agreement, letters, day, condition), told)
        self.assertIs(type(told[1]), bool)
        self.assertIs(weighed(agreement, letters, day, condition)[1], told[1])

    def test_had(self):
        letters = said("5.2 ask", "5.1 ask", "3 ask", "4 note") + [(6, 1, "bob", "ask", 0)]
        self.weigh(WHOLE, letters, 9, ("had", "ask"), ("had", True, [(3, 1), (5, 1), (5, 2)]))
        self.weigh(WHOLE, letters, 4, ("had", "ask"), ("had", True, [(3, 1)]))
        self.weigh(WHOLE, letters, 2, ("had", "ask"), ("had", False, []))
        self.weigh(WHOLE, letters, 9, ("had", "cash"), ("had", False, []))

    def test_owes_and_broken(self):
        whole = deal("duty give : ann must send ask to bob within 2 days after every 1 from 3")
        self.weigh(whole, [], 2, ("owes", "give"), ("owes", False, []))
        self.weigh(whole, [], 4, ("owes", "give"), ("owes", True, [1, 2]))
        self.weigh(whole, said("4 ask"), 5, ("owes", "give"), ("owes", True, [2, 3]))
        self.weigh(whole, [], 4, ("broken", "give"), ("broken", False, []))
        self.weigh(whole, [], 5, ("broken", "give"), ("broken", True, [1]))
        self.weigh(whole, said("8.1 ask", "8.2 ask"), 9, ("broken", "give"), ("broken", True, [1, 2]))
        self.weigh(whole, said("8.1 ask", "8.2 ask"), 8, ("owes", "give"), ("owes", False, []))

    def test_ended_and_before(self):
        whole = deal("end over : after day 5")
        self.weigh(whole, [], 4, ("ended",), ("ended", False, []))
        self.weigh(whole, [], 5, ("ended",), ("ended", True, []))
        self.weigh(whole, [], 4, ("before", 5), ("before", True, []))
        self.weigh(whole, [], 5, ("before", 5), ("before", False, []))

    def test_within_others_to_four_deep(self):
        whole = deal(GIVE + "day 3")
        had, owes = ("had", "ask"), ("owes", "give")
        no, yes = ("had", False, []), ("owes", True, [1])
        self.weigh(whole, [], 3, ("not", had), ("not", True, [no]))
        self.weigh(whole, [], 3, ("not", owes), ("not", False, [yes]))
        self.weigh(whole, [], 3, ("all", had, owes, owes), ("all", False, [no, yes, yes]))
        self.weigh(whole, [], 3, ("all", owes, owes), ("all", True, [yes, yes]))
        self.weigh(whole, [], 3, ("any", had, had, owes, had), ("any", True, [no, no, yes, no]))
        self.weigh(whole, [], 3, ("any", had, had), ("any", False, [no, no]))
        self.weigh(whole, [], 3, ("not", ("any", ("not", owes), ("all", owes, had))),
                   ("not", True, [("any", False, [("not", False, [yes]), ("all", False, [yes, no])])]))

    def test_no_condition(self):
        five = ("not", ("not", ("not", ("not", ("ended",)))))
        for thing in [five, ("had", "give"), ("had", "over"), ("owes", "ask"), ("broken", "over"), ("had", "nobody"),
                      ("owes", "nobody"), ("before", 3001), ("before", True), ("before", -1), ("not", ("had", "more")),
                      ("all", ("ended",)), ("any",), ("ended", 3), None, ["ended"]] + odd_things():
            with self.assertRaises(NoCondition):
                weighed(WHOLE, [], 9, thing)
        self.assertEqual(weighed(WHOLE, [], 9, five[1])[0], "not")

    def test_made_ones(self):
        for seed in range(60):
            agreement, letters = made(seed)
            conditions = [word[3] for word in agreement[2] if word[3] is not None]
            for day in (0, 20, 60):
                oracle = Oracle(agreement, letters)
                oracle.days(day)
                for condition in conditions:
                    self.assertEqual(weighed(agreement, letters, day, condition), oracle.weighed(condition))


class IdleWhy(unittest.TestCase):
    def whole(self):
        parties, rest, words, clauses = WHOLE
        condition = ("all", ("before", 8), ("not", ("had", "cash")))
        return (parties, rest, tuple(word[:3] + (condition,) if word[0] in ("cash", "note") else word for word in words),
                clauses)

    def test_the_first_that_is_so(self):
        for letter, why in (
            ((4, 2, "ann", "nobody", 0), ("word",)), ((4, 2, "eve", "nobody", 5), ("word",)),
            ((4, 2, "bob", "ask", 0), ("sender",)), ((4, 2, "bob", "cash", 0), ("sender",)),
            ((4, 2, "eve", "ask", 3), ("sender",)), ((4, 2, "ann", "ask", 3), ("coins",)),
            ((4, 2, "ann", "cash", 0), ("coins",)), ((9, 2, "ann", "cash", 0), ("coins",)),
            ((4, 2, "ann", "ask", 0), None), ((4, 2, "ann", "cash", 1), None), ((4, 2, "ann", "give", 1), ("word",)),
            ((8, 2, "ann", "cash", 1), ("while", ("all", False, [
                ("before", False, []), ("not", True, [("had", False, [])])]))),
        ):
            self.assertEqual(idle_why(self.whole(), [letter], 9, letter[0], 2), why)

    def test_in_the_state_ahead_of_the_letter(self):
        letters = said("4.1 cash 3", "4.2 cash 3", "4.3 note", "7 cash 1")
        late = ("while", ("all", False, [("before", True, []), ("not", False, [("had", True, [(4, 1)])])]))
        for day in (7, 9, 3000):
            self.assertIsNone(idle_why(self.whole(), letters, day, 4, 1))
            for said_on, turn in ((4, 2), (4, 3), (7, 1)):
                self.assertEqual(idle_why(self.whole(), letters, day, said_on, turn), late)
        # What the morning of its day, and an evening ahead, did.
        parties, rest, words, clauses = deal("duty give : ann must send ask to bob within 2 days after day 3")
        for condition, day, told in ((("owes", "give"), 2, ("owes", False, [])), (("owes", "give"), 3, None),
                                     (("broken", "give"), 5, ("broken", False, [])), (("broken", "give"), 6, None)):
            whole = (parties, rest, (words[0],) + (words[1][:3] + (condition,),) + words[2:], clauses)
            self.assertEqual(idle_why(whole, said(f"{day} note"), 9, day, 1), told and ("while", told))

    def test_no_letter_there(self):
        letters = said("4 ask", "1 ask", "9.2 note")
        for said_on, turn in [(4, 2), (3, 1), (9, 1), (0, 0), (-1, 1), (BIG, 1), (4, BIG), (True, 1), (1, True), ("4", 1),
                              (4, None), ([4], 1), (4, {}), (None, None), ((4, 1), 1)]:
            with self.assertRaises(NoLetterThere) as caught:
                idle_why(WHOLE, letters, 9, said_on, turn)
            self.assertEqual((caught.exception.said, caught.exception.turn), (said_on, turn))
            self.assertIs(type(caught.exception.said), type(said_on))
        for thing in odd_things():
            with self.assertRaises(NoLetterThere):
                idle_why(WHOLE, letters, 9, thing, 1)
            with self.assertRaises(NoLetterThere):
                idle_why(WHOLE, letters, 9, 4, thing)
        with self.assertRaises(NoLetterThere):
            idle_why(WHOLE, letters, 8, 9, 2)
        self.assertIsNone(idle_why(WHOLE, letters, 9, 9, 2))

    def test_made_ones(self):
        seen = {}
        for seed in range(60):
            agreement, letters = made(seed)
            oracle = Oracle(agreement, letters)
            oracle.days(60)
            for letter in letters:
                why = idle_why(agreement, letters, 60, letter[0], letter[1])
                self.assertEqual(why, oracle.idle[letter[:2]])
                seen[why and why[0]] = seen.get(why and why[0], 0) + 1
        self.assertEqual(len(seen), 5)
        self.assertGreater(min(seen.values()), 10)


class Refused(Refuses):
    def test_in_this_order(self):
        for function in (lambda *asked: chain(*asked, None), lambda *asked: is_chain(*asked, None),
                         lambda *asked: weighed(*asked, None), lambda *asked: idle_why(*asked, None, None)):
            self.refuses_in_order(function, WHOLE)

    def test_what_is_told_is_the_askers_own(self):
        told = chain(WHOLE, [], 9, ("brought", "more", 1))
        told.clear()
        self.assertEqual(len(chain(WHOLE, [], 9, ("brought", "more", 1))), 4)
        told = weighed(WHOLE, said("3 ask"), 9, ("not", ("had", "ask")))
        told[2][0][2].clear()
        self.assertEqual(weighed(WHOLE, said("3 ask"), 9, ("not", ("had", "ask"))),
                         ("not", False, [("had", True, [(3, 1)])]))
