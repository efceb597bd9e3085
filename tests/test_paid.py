"""Promise 12: what letters do, how coins are led to debts, what is late, and what fees grow."""

from dealtongue.reckoner import reckoned
from tests.makers import made
from tests.oracle import Oracle
from tests.reckons import Reckons, deal, rested, said


def settle(name, coins, days, trigger):
    """The row of a duty by which ann is to pay bob."""
    return f"duty {name} : ann must pay {coins} coins to bob within {days} days after {trigger}"


def give(name, days, trigger, words="ask"):
    """The row of a duty by which ann is to send something to bob."""
    return f"duty {name} : ann must send {words} to bob within {days} days after {trigger}"


class Sent(Reckons):
    def done(self, whole, letters, day):
        return [thing[:2] for thing in self.state(whole, letters, day).things() if thing[4] == "done"]

    def test_one_thing_by_each_letter(self):
        whole = deal(give("one", 9, "day 1"), give("two", 9, "day 1"))
        self.assertEqual(self.done(whole, [], 5), [])
        self.assertEqual(self.done(whole, said("2 ask"), 5), [("one", 1)])
        self.assertEqual(self.done(whole, said("2 ask", "2.2 ask"), 5), [("one", 1), ("two", 1)])
        self.assertEqual(self.done(whole, said("2 ask", "3 ask", "4 ask"), 5), [("one", 1), ("two", 1)])

    def test_the_first_by_the_day_due(self):
        whole = deal(give("one", 9, "day 1"), give("two", 4, "day 3"), give("three", 9, "day 1"))
        self.assertEqual(self.done(whole, said("3 ask"), 5), [("two", 1)])
        self.assertEqual(self.done(whole, said("2 ask"), 5), [("one", 1)])
        self.assertEqual(self.done(whole, said("3 ask", "4 ask"), 5), [("one", 1), ("two", 1)])

    def test_then_by_the_place(self):
        whole = deal(give("zeta", 5, "day 3"), give("alpha", 6, "day 2"), give("beta", 7, "day 1"))
        self.assertEqual(self.done(whole, said("4 ask"), 5), [("zeta", 1)])
        self.assertEqual(self.done(whole, said("4 ask", "5 ask"), 5), [("zeta", 1), ("alpha", 1)])

    def test_then_by_the_number(self):
        whole = rested(((5, 6), ()), "duty one : ann must send ask to bob within 1 work after every 1 from 4")
        self.assertEqual(self.done(whole, said("6 ask"), 6), [("one", 1)])
        # Due ahead of place: the second thing of the first duty is due behind the one of the other.
        whole = deal(give("one", 5, "every 3 from 1"), give("two", 5, "day 2"))
        self.assertEqual(self.done(whole, said("4 ask"), 5), [("one", 1)])
        self.assertEqual(self.done(whole, said("4 ask", "5 ask"), 5), [("one", 1), ("two", 1)])

    def test_by_the_place_ahead_of_the_number(self):
        """Three things due on day 7: of the duty that stands ahead the second one, of the other the first one."""
        rows = ("duty one : ann must send ask to bob within 1 work after every 1 from 3",
                "duty two : ann must send ask to bob within 1 work after day 5")
        letters = said("4 ask", "6 ask")
        whole = rested(((5, 6), ()), *rows)
        self.assertEqual(self.done(whole, letters[:1], 6), [("one", 1)])
        self.assertEqual([thing[:4] for thing in self.state(whole, letters, 6).things() if thing[4] == "open"],
                         [("one", 3, 5, 7), ("two", 1, 5, 7)])
        whole = rested(((5, 6), ()), *rows[::-1])
        self.assertEqual(self.done(whole, letters, 6), [("two", 1), ("one", 1)])

    def test_late_ones_too(self):
        whole = deal(give("one", 9, "day 3"), give("two", 1, "day 1"))
        state = self.state(whole, said("3 ask"), 4)
        self.assertEqual(state.things(), [("one", 1, 3, 12, "open", 3, 0), ("two", 1, 1, 2, "done", 3, 0)])
        self.assertEqual(state.broken(), [("two", 1, 2)])

    def test_those_whose_act_has_the_word(self):
        whole = deal("duty one : bob must send note to ann within 9 days after day 1", give("two", 9, "day 1"),
                     settle("three", 5, 9, "day 1"))
        self.assertEqual(self.done(whole, said("2 ask"), 5), [("two", 1)])
        self.assertEqual(self.done(whole, said("2 note"), 5), [("one", 1)])

    def test_either_of_two_words(self):
        parties, rest, words, clauses = deal(give("one", 9, "every 1 from 1"))
        words += (("tell", "ann", None, None), ("hint", "ann", None, None))
        for act, doing in ((("ask", "tell"), ("ask", "tell")), (("tell", "ask"), ("ask", "tell")),
                           (("hint",), ("hint",))):
            duty = clauses[0][:4] + (("send", act),) + clauses[0][5:]
            for word in ("ask", "tell", "hint"):
                done = self.done((parties, rest, words, (duty,)), [(2, 1, "ann", word, 0)], 5)
                self.assertEqual(done, [("one", 1)] if word in doing else [])

    def test_a_plain_word_does_nothing_to_pay(self):
        parties, rest, words, clauses = deal("duty part : bob must pay 1 / 2 to ann within 9 days after letter cash")
        words += (("share", "bob", None, None),)
        state = self.state((parties, rest, words, clauses), said("2 cash 8") + [(3, 1, "bob", "share", 0)], 5)
        self.assertEqual(state.things(), [("part", 1, 2, 11, "open", 2, 4)])
        self.assertEqual(state.had(), ["cash", "share"])

    def test_a_word_with_coins_does_nothing_to_send(self):
        whole = deal(give("one", 9, "day 1"))
        self.assertEqual(self.done(whole, said("2 cash 4"), 5), [])


class Paid(Reckons):
    def left(self, whole, letters, day):
        """What is left of all things, and what is put by from ann for bob."""
        state = self.state(whole, letters, day)
        return [thing[6] for thing in state.things()] + [state.put_by().get(("ann", "bob"), 0)]

    def test_until_it_is_paid(self):
        whole = deal(settle("one", 9, 9, "day 1"))
        self.assertEqual(self.left(whole, said("2 cash 1"), 5), [8, 0])
        self.assertEqual(self.left(whole, said("2 cash 8"), 5), [1, 0])
        self.assertEqual(self.left(whole, said("2 cash 9"), 5), [0, 0])
        self.assertEqual(self.left(whole, said("2 cash 10"), 5), [0, 1])
        self.assertEqual(self.left(whole, said("2 cash 4", "3 cash 4"), 5), [1, 0])
        self.assertEqual(self.left(whole, said("2 cash 4", "2.2 cash 4", "3 cash 4"), 5), [0, 3])
        self.assertEqual(self.left(whole, said("2 cash 1000000000"), 5), [0, 999999991])

    def test_done_when_it_is_paid_whole(self):
        whole = deal(settle("one", 9, 9, "day 1"))
        self.things(whole, said("2 cash 8"), 9, ("one", 1, 1, 10, "open", 1, 1))
        for letters, thing in (
            (said("2 cash 8"), ("one", 1, 1, 10, "late", 10, 1)), (said("2 cash 9"), ("one", 1, 1, 10, "done", 2, 0)),
            (said("2 cash 8", "5 cash 1"), ("one", 1, 1, 10, "done", 5, 0)),
            (said("12 cash 9"), ("one", 1, 1, 10, "done", 12, 0)),
            (said("12 cash 8"), ("one", 1, 1, 10, "late", 10, 1)),
        ):
            self.things(whole, letters, 15, thing)

    def test_the_first_by_the_day_due(self):
        whole = deal(settle("one", 9, 9, "day 1"), settle("two", 5, 4, "day 2"), settle("three", 4, 6, "day 3"))
        for coins, left in ((1, [9, 4, 4, 0]), (5, [9, 0, 4, 0]), (7, [9, 0, 2, 0]), (9, [9, 0, 0, 0]),
                            (10, [8, 0, 0, 0]),
                            (18, [0, 0, 0, 0]), (20, [0, 0, 0, 2])):
            self.assertEqual(self.left(whole, said(f"4 cash {coins}"), 4), left)

    def test_then_by_the_place(self):
        whole = deal(settle("zeta", 5, 5, "day 3"), settle("alpha", 5, 6, "day 2"), settle("beta", 5, 7, "day 1"))
        self.assertEqual(self.left(whole, said("4 cash 7"), 4), [0, 3, 5, 0])

    def test_then_by_the_number(self):
        whole = rested(((5, 6), ()), "duty one : ann must pay 5 coins to bob within 1 work after every 1 from 4")
        self.assertEqual(self.left(whole, said("6 cash 3"), 6), [2, 5, 0])
        self.assertEqual(self.left(whole, said("6 cash 7"), 6), [0, 3, 0])

    def test_to_debts_of_these_two_alone(self):
        parties, rest, words, clauses = deal(
            "duty one : bob must pay 5 coins to ann within 9 days after day 1", settle("two", 5, 9, "day 1"))
        words += (("gift", "ann", "cat", None), ("grant", "cat", "ann", None))
        clauses += (("duty", "three", "ann", "cat", ("pay", ("coins", 5)), ("days", 9), ("day", 1), None, False),
                    ("duty", "four", "cat", "ann", ("pay", ("coins", 5)), ("days", 9), ("day", 1), None, False))
        whole = (parties, rest, words, clauses)
        for sender, word, payee, left in (
            ("ann", "cash", "bob", [5, 0, 5, 5]), ("bob", "back", "ann", [0, 5, 5, 5]),
            ("ann", "gift", "cat", [5, 5, 0, 5]),
            ("cat", "grant", "ann", [5, 5, 5, 0]),
        ):
            state = self.state(whole, [(2, 1, sender, word, 7)], 5)
            self.assertEqual([thing[6] for thing in state.things()], left)
            self.assertEqual(state.put_by(), {(sender, payee): 2})

    def test_words_of_the_same_two(self):
        parties, rest, words, clauses = deal(settle("one", 5, 9, "day 1"))
        words += (("tip", "ann", "bob", None),)
        state = self.state((parties, rest, words, clauses), said("2 cash 3") + [(3, 1, "ann", "tip", 4)], 5)
        self.assertEqual(state.things(), [("one", 1, 1, 10, "done", 3, 0)])
        self.assertEqual(state.put_by(), {("ann", "bob"): 2})

    def test_things_to_send_are_no_debts(self):
        whole = deal(give("one", 9, "day 1"), settle("two", 5, 9, "day 1"))
        self.assertEqual(self.state(whole, said("2 cash 4"), 5).things(), [
            ("one", 1, 1, 10, "open", 1, 0), ("two", 1, 1, 10, "open", 1, 1)])

    def test_done_and_freed_things_are_no_debts(self):
        whole = deal(settle("one", 5, 9, "day 1"), settle("two", 5, 20, "day 1"), "free spare : one after day 3")
        self.assertEqual(self.left(whole, said("2 cash 2", "4 cash 6"), 4), [3, 0, 1])
        self.assertEqual(self.left(whole, said("2 cash 5", "4 cash 6"), 4), [0, 0, 1])

    def test_more_than_one_is_done_by_one_letter(self):
        whole = deal(settle("one", 5, 9, "day 1"), settle("two", 5, 20, "day 1"),
                     "duty more : bob must send note to ann within 9 days after done one",
                     "duty much : bob must send note to ann within 9 days after done two")
        names = [thing[0] for thing in self.state(whole, said("2 cash 10"), 4).things()]
        self.assertEqual(names, ["one", "two", "more", "much"])
        names = [thing[0] for thing in self.state(whole, said("2 cash 9"), 4).things()]
        self.assertEqual(names, ["one", "two", "more"])


class PutBy(Reckons):
    def test_added_up(self):
        whole = deal("end over : after day 3000")
        state = self.state(whole, said("1 cash 2", "1.2 cash 3", "4 back 5", "9 cash 10"), 9)
        self.assertEqual(state.put_by(), {("ann", "bob"): 15, ("bob", "ann"): 5})
        self.assertEqual(self.state(whole, [], 9).put_by(), {})

    def test_led_to_debts_in_the_evening(self):
        """A letter's own coins go ahead of what is put by; that goes in the evening alone."""
        whole = deal(settle("one", 9, 5, "day 3"), "free spare : one after letter ask")
        self.assertEqual(self.state(whole, said("2 cash 4"), 3).things(), [("one", 1, 3, 8, "open", 3, 5)])
        self.assertEqual(self.state(whole, said("2 cash 4"), 3).put_by(), {})
        # Freed on the day on which it is brought: nothing was led to it yet.
        state = self.state(whole, said("2 cash 4", "3 ask"), 3)
        self.assertEqual(state.things(), [("one", 1, 3, 8, "freed", 3, 9)])
        self.assertEqual(state.put_by(), {("ann", "bob"): 4})
        state = self.state(whole, said("2 cash 4", "3 cash 7", "3.2 ask"), 3)
        self.assertEqual(state.things(), [("one", 1, 3, 8, "freed", 3, 2)])
        self.assertEqual(state.put_by(), {("ann", "bob"): 4})

    def test_done_by_it_in_the_evening(self):
        whole = deal(settle("one", 9, 5, "day 3"), "duty more : bob must send note to ann within 9 days after done one",
                     "free spare : more after done one")
        state = self.state(whole, said("2 cash 11"), 3)
        self.assertEqual(state.things(), [("one", 1, 3, 8, "done", 3, 0), ("more", 1, 3, 12, "open", 3, 0)])
        self.assertEqual(state.put_by(), {("ann", "bob"): 2})

    def test_ahead_of_what_is_late(self):
        """Brought in an evening, and paid in the next one, that of its day due."""
        whole = deal("duty seed : bob must send note to ann within 1 days after day 3",
                     settle("one", 4, 1, "broken seed"),
                     "fee slow : 1 at most 5 for one")
        state = self.state(whole, said("1 cash 9"), 9)
        self.assertEqual(state.things()[1], ("one", 1, 4, 5, "done", 5, 0))
        self.assertEqual((state.broken(), state.fees()), ([("seed", 1, 4)], []))
        state = self.state(whole, said("1 cash 3"), 9)
        self.assertEqual(state.things()[1], ("one", 1, 4, 5, "late", 5, 1))
        self.assertEqual((state.broken(), state.fees()), ([("seed", 1, 4), ("one", 1, 5)], [("slow", 1, 4, 0)]))

    def test_in_the_order_of_debts(self):
        whole = deal(settle("one", 5, 9, "day 3"), settle("two", 5, 8, "day 3"), settle("three", 5, 9, "day 3"))
        for coins, left in ((4, [5, 1, 5]), (5, [5, 0, 5]), (8, [2, 0, 5]), (14, [0, 0, 1]), (16, [0, 0, 0])):
            state = self.state(whole, said(f"1 cash {coins}"), 3)
            self.assertEqual([thing[6] for thing in state.things()], left)
            self.assertEqual(state.put_by(), {("ann", "bob"): 1} if coins == 16 else {})

    def test_of_each_pair_to_its_own_debts(self):
        whole = deal(settle("one", 5, 9, "day 3"), "duty two : bob must pay 5 coins to ann within 9 days after day 3")
        state = self.state(whole, said("1 cash 7", "1.2 back 4"), 3)
        self.assertEqual([thing[4:] for thing in state.things()], [("done", 3, 0), ("open", 3, 1)])
        self.assertEqual(state.put_by(), {("ann", "bob"): 2})

    def test_pairs_in_one_evening_in_one_phase(self):
        """What one pair's coins do isn't seen by a condition for what the other's do."""
        whole = deal(settle("one", 5, 9, "day 3"), "duty two : bob must pay 5 coins to ann within 9 days after day 3",
                     "duty more : ann must send ask to cat within 9 days after done one while owes two",
                     "duty much : ann must send ask to cat within 9 days after done two while owes one")
        state = self.state(whole, said("1 cash 5", "1.2 back 5"), 3)
        self.assertEqual([thing[0] for thing in state.things()], ["one", "two", "more", "much"])

    def test_it_goes_to_fees_as_they_grow(self):
        whole = deal(give("one", 1, "day 1"), "fee slow : 3 at most 10 for one")
        fees = {3: (3, 0), 4: (6, 3), 5: (9, 6), 6: (10, 7), 7: (10, 7), 9: (10, 7)}
        for day, fee in fees.items():
            state = self.state(whole, said("1 cash 7"), day)
            self.assertEqual(state.fees(), [("slow", 1) + fee])
            self.assertEqual(state.put_by(), {("ann", "bob"): 7 - fee[1]} if fee[1] < 7 else {})


class Late(Reckons):
    def test_on_the_evening_of_the_day_due(self):
        whole = deal(give("one", 2, "day 3"), "duty two : bob must send note to ann within 1 days after broken one")
        self.assertEqual(self.state(whole, [], 4).broken(), [])
        self.assertEqual(self.state(whole, [], 5).broken(), [("one", 1, 5)])
        self.assertEqual(self.state(whole, [], 9).broken(), [("one", 1, 5), ("two", 1, 6)])
        self.assertEqual(self.state(whole, said("5.99 ask"), 9).broken(), [])
        self.assertEqual(self.state(whole, said("6 ask"), 6).broken(), [("one", 1, 5), ("two", 1, 6)])

    def test_broken_for_ever(self):
        whole = deal(give("one", 2, "day 3"), settle("two", 5, 2, "day 3"), give("three", 2, "day 3"),
                     "free spare : three after day 7")
        state = self.state(whole, said("6 ask", "8 cash 5"), 3000)
        self.assertEqual([thing[4:6] for thing in state.things()], [("done", 6), ("done", 8), ("freed", 7)])
        self.assertEqual(state.broken(), [("one", 1, 5), ("two", 1, 5), ("three", 1, 5)])
        for name in ("one", "two", "three"):
            self.assertIs(state.holds(("broken", name)), True)

    def test_partly_paid_is_late_too(self):
        whole = deal(settle("two", 5, 2, "day 3"))
        self.things(whole, said("4 cash 4"), 5, ("two", 1, 3, 5, "late", 5, 1))

    def test_all_at_once(self):
        """Conditions see none of them late yet."""
        whole = deal(give("one", 2, "day 3"), give("two", 2, "day 3"),
                     "duty more : ann must send ask to cat within 9 days after broken two while broken one")
        self.assertEqual(len(self.state(whole, [], 9).things()), 2)
        whole = deal(give("one", 1, "day 3"), give("two", 2, "day 3"),
                     "duty more : ann must send ask to cat within 9 days after broken two while broken one")
        self.assertEqual(len(self.state(whole, [], 9).things()), 3)


class Fees(Reckons):
    def fees(self, whole, letters, day):
        return self.state(whole, letters, day).fees()

    def test_from_the_evening_behind(self):
        whole = deal(settle("one", 9, 2, "day 3"), "fee slow : 2 at most 7 for one")
        for day, grown in ((4, 0), (5, 0), (6, 2), (7, 4), (8, 6), (9, 7), (10, 7), (3000, 7)):
            self.assertEqual(self.fees(whole, [], day), [("slow", 1, grown, 0)] if grown else [])

    def test_each_and_most(self):
        for each, most, grown in ((1, 1, [1, 1, 1]), (5, 3, [3, 3, 3]), (5, 5, [5, 5, 5]), (5, 6, [5, 6, 6]),
                                  (1, 9, [1, 2, 3]),
                                  (1000000000, 1000000000, [1000000000] * 3), (1000000000, 1, [1, 1, 1])):
            whole = deal(settle("one", 9, 2, "day 3"), f"fee slow : {each} at most {most} for one")
            for after, coins in enumerate(grown):
                self.assertEqual(self.fees(whole, [], 6 + after), [("slow", 1, coins, 0)])

    def test_none_where_it_is_done_by_the_evening(self):
        whole = deal(give("one", 2, "day 3"), "fee slow : 2 at most 7 for one")
        self.assertEqual(self.fees(whole, said("5 ask"), 9), [])
        self.assertEqual(self.fees(whole, said("6 ask"), 9), [])
        self.assertEqual(self.fees(whole, said("7 ask"), 9), [("slow", 1, 2, 0)])

    def test_none_for_a_thing_that_is_paid_in_time_for_the_evening(self):
        whole = deal(settle("one", 9, 1, "day 3"), "fee slow : 2 at most 7 for one")
        for coins, fees in ((9, [("slow", 1, 2, 0)]), (10, [("slow", 1, 2, 1)]), (8, [("slow", 1, 7, 0)])):
            self.assertEqual(self.fees(whole, said(f"6 cash {coins}"), 20), fees)
        for day, fees in ((4, []), (5, []), (6, [("slow", 1, 2, 0)])):
            self.assertEqual(self.fees(whole, said(f"{day} cash 9"), 20), fees)

    def test_of_each_thing(self):
        whole = deal(settle("one", 9, 2, "every 2 from 3"), "fee slow : 2 at most 7 for one")
        self.assertEqual(self.fees(whole, [], 7), [("slow", 1, 4, 0)])
        self.assertEqual(self.fees(whole, [], 8), [("slow", 1, 6, 0), ("slow", 2, 2, 0)])
        self.assertEqual(self.fees(whole, [], 20), [("slow", 1, 7, 0), ("slow", 2, 7, 0)])
        self.assertEqual(self.fees(whole, said("5 cash 9"), 8), [("slow", 2, 2, 0)])

    def test_several_for_one_duty(self):
        whole = deal("fee late : 1 at most 2 for one", give("one", 2, "day 3"), "fee slow : 3 at most 4 for one")
        self.assertEqual(self.fees(whole, [], 6), [("late", 1, 1, 0), ("slow", 1, 3, 0)])
        self.assertEqual(self.fees(whole, [], 9), [("late", 1, 2, 0), ("slow", 1, 4, 0)])

    def test_for_its_duty_alone(self):
        whole = deal(give("one", 2, "day 3"), give("two", 2, "day 3"), "fee slow : 3 at most 4 for two")
        self.assertEqual(self.fees(whole, [], 6), [("slow", 1, 3, 0)])
        self.assertEqual(self.fees(whole, said("5 ask", "5.2 ask"), 6), [])
        self.assertEqual(self.fees(whole, said("5 ask"), 6), [("slow", 1, 3, 0)])

    def test_what_has_grown_stays_owed(self):
        rows = (settle("one", 9, 2, "day 3"), "fee slow : 2 at most 7 for one")
        owed = [("ann", "bob", ("coins",), 5, 4)]
        state = self.state(deal(*rows), said("8 cash 9"), 20)
        self.assertEqual(state.things()[0][4:], ("done", 8, 0))
        self.assertEqual((state.fees(), state.owed()), ([("slow", 1, 4, 0)], owed))
        state = self.state(deal(*rows, "free spare : one after day 8"), [], 20)
        self.assertEqual(state.things()[0][4:], ("freed", 8, 9))
        self.assertEqual((state.fees(), state.owed()), ([("slow", 1, 4, 0)], owed))
        state = self.state(deal(*rows, "end over : after day 8"), said("30 cash 3"), 40)
        self.assertEqual((state.fees(), state.owed()), ([("slow", 1, 4, 3)], [("ann", "bob", ("coins",), 5, 1)]))
        state = self.state(deal(*rows, "end over : after day 8"), said("30 cash 5"), 40)
        self.assertEqual((state.fees(), state.owed(), state.put_by()), ([("slow", 1, 4, 4)], [], {("ann", "bob"): 1}))

    def test_they_grow_behind_the_end_where_the_duty_stays(self):
        whole = deal(settle("one", 9, 2, "day 3") + " stays", "fee slow : 2 at most 7 for one",
                     "end over : after day 6")
        self.assertEqual(self.fees(whole, [], 8), [("slow", 1, 6, 0)])

    def test_freed_or_ended_in_an_evening(self):
        """The fee grows ahead of what the evening frees."""
        other = "duty other : bob must send note to ann within 1 days after day 7"
        for clause in ("free spare : one after broken other", "end over : after broken other"):
            whole = deal(settle("one", 9, 2, "day 3"), "fee slow : 2 at most 70 for one", other, clause)
            self.assertEqual(self.fees(whole, [], 20), [("slow", 1, 6, 0)])
        # In a morning, or by a letter, it is freed ahead of the evening.
        for trigger, letters in (("day 8", []), ("letter ask", said("8 ask"))):
            whole = deal(settle("one", 9, 2, "day 3"), "fee slow : 2 at most 70 for one",
                         f"free spare : one after {trigger}")
            self.assertEqual(self.fees(whole, letters, 20), [("slow", 1, 4, 0)])

    def test_paid_in_the_order_of_debts(self):
        """Of a thing and its fee, both due on one day, the clause that stands ahead; an elder fee ahead of a thing."""
        ahead = deal("fee slow : 2 at most 7 for one", settle("one", 9, 2, "day 3"), settle("two", 5, 1, "day 5"))
        behind = deal(settle("one", 9, 2, "day 3"), settle("two", 5, 1, "day 5"), "fee slow : 2 at most 7 for one")
        for whole, coins, left, paid in (
            (ahead, 1, (9, 5), 1), (ahead, 4, (9, 5), 4), (ahead, 6, (7, 5), 4), (ahead, 14, (0, 4), 4),
            (behind, 1, (8, 5), 0), (behind, 9, (0, 5), 0), (behind, 11, (0, 5), 2), (behind, 14, (0, 4), 4),
        ):
            state = self.state(whole, said(f"8 cash {coins}"), 8)
            self.assertEqual(tuple(thing[6] for thing in state.things()), left)
            self.assertEqual(state.fees()[0][3], paid)

    def test_paid_by_numbers(self):
        whole = rested(((5, 6), ()), "duty one : ann must send ask to bob within 1 work after every 1 from 4",
                       "fee slow : 2 at most 7 for one")
        for coins, fees in ((1, [(4, 1), (4, 0)]), (5, [(4, 4), (4, 1)]), (9, [(4, 4), (4, 4)])):
            state = self.state(whole, said(f"10 cash {coins}"), 10)
            self.assertEqual([fee[:2] for fee in state.fees()], [("slow", 1), ("slow", 2)])
            grown = [(fee[2] - 2, fee[3]) for fee in state.fees()]
            self.assertEqual(grown, fees)

    def test_other_pairs_coins_pay_no_fee(self):
        whole = deal(give("one", 2, "day 3"), "fee slow : 2 at most 7 for one")
        self.assertEqual(self.fees(whole, said("7 back 9"), 9), [("slow", 1, 7, 0)])
        self.assertEqual(self.fees(whole, said("7 cash 9"), 7), [("slow", 1, 4, 2)])


class Coins(Reckons):
    def test_every_coin_is_led_to_debts_or_put_by(self):
        moved = 0
        for seed in range(60):
            agreement, letters = made(seed)
            oracle = Oracle(agreement, letters)
            oracle.days(60)
            state = reckoned(agreement, letters, 60)
            paid = sum(fee[3] for fee in state.fees()) + sum(state.put_by().values())
            paid += sum(oracle.amounts[thing[:2]] - thing[6] for thing in state.things())
            coins = sum(letter[4] for letter in oracle.heard)
            self.assertEqual(paid, coins)
            moved += coins
        self.assertGreater(moved, 1000)
