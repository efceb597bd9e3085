"""Promises 10 and 11: what brings things, when they are due, in which order all of a phase goes."""

from tests.reckons import Reckons, deal, rested, said

GIVE = "duty give : ann must send ask to bob within 2 days after "


class Triggers(Reckons):
    def test_day(self):
        whole = deal(GIVE + "day 3")
        self.things(whole, [], 2)
        for day in (3, 4):
            self.things(whole, [], day, ("give", 1, 3, 5, "open", 3, 0))
        self.things(whole, [], 3000, ("give", 1, 3, 5, "late", 5, 0))
        self.things(deal(GIVE + "day 0"), [], 0, ("give", 1, 0, 2, "open", 0, 0))
        self.things(deal(GIVE + "day 3000"), [], 2999)
        self.things(deal(GIVE + "day 3000"), [], 3000, ("give", 1, 3000, 3002, "open", 3000, 0))

    def test_every(self):
        whole = deal("duty give : ann must send ask to bob within 1 days after every 3 from 2",
                     "free spare : give after every 1 from 0")
        self.things(whole, [], 1)
        self.things(whole, [], 2, ("give", 1, 2, 3, "open", 2, 0))
        self.things(whole, [], 11, ("give", 1, 2, 3, "freed", 3, 0), ("give", 2, 5, 6, "freed", 6, 0),
                    ("give", 3, 8, 9, "freed", 9, 0), ("give", 4, 11, 12, "open", 11, 0))
        for first, step, days in (
            (0, 60, [0, 60, 120]), (7, 60, [7, 67, 127]), (59, 60, [59, 119]), (0, 1, list(range(131))),
            (130, 1, [130]), (131, 1, []), (60, 59, [60, 119]), (3000, 1, []), (4, 7, list(range(4, 131, 7))),
        ):
            whole = deal(GIVE + f"every {step} from {first}", "free spare : give after done give",
                         "free more : give after every 1 from 0")
            self.assertEqual([thing[2] for thing in self.state(whole, [], 130).things()], days)
        self.things(deal(GIVE + "every 60 from 3000"), [], 3000, ("give", 1, 3000, 3002, "open", 3000, 0))
        self.things(deal(GIVE + "every 60 from 2939"), [], 3000, ("give", 1, 2939, 2941, "late", 2941, 0),
                    ("give", 2, 2999, 3001, "open", 2999, 0))

    def test_letter(self):
        whole = deal(GIVE + "letter note")
        self.things(whole, said("4 note"), 3)
        self.things(whole, said("4 note"), 4, ("give", 1, 4, 6, "open", 4, 0))
        self.things(whole, said("4 ask", "4.2 cash 1", "4.3 back 1"), 9)
        self.things(whole, said("4.2 note", "4.1 note"), 4, ("give", 1, 4, 6, "open", 4, 0),
                    ("give", 2, 4, 6, "open", 4, 0))
        self.things(whole, said("3000 note"), 3000, ("give", 1, 3000, 3002, "open", 3000, 0))
        self.things(deal(GIVE + "letter cash"), said("4 cash 3"), 4, ("give", 1, 4, 6, "open", 4, 0))

    def test_done(self):
        whole = deal(GIVE + "day 3", "duty thank : bob must send note to ann within 1 days after done give")
        self.things(whole, said("4 ask"), 4, ("give", 1, 3, 5, "done", 4, 0), ("thank", 1, 4, 5, "open", 4, 0))
        self.things(whole, said("8 ask"), 8, ("give", 1, 3, 5, "done", 8, 0), ("thank", 1, 8, 9, "open", 8, 0))
        self.things(whole, said("2 ask"), 8, ("give", 1, 3, 5, "late", 5, 0))
        # The other way round in the text.
        whole = deal("duty thank : bob must send note to ann within 1 days after done give", GIVE + "day 3")
        self.things(whole, said("4 ask"), 4, ("thank", 1, 4, 5, "open", 4, 0), ("give", 1, 3, 5, "done", 4, 0))

    def test_freed_is_not_done(self):
        whole = deal(GIVE + "day 3", "duty thank : bob must send note to ann within 1 days after done give",
                     "free spare : give after day 4")
        self.things(whole, said("5 ask"), 9, ("give", 1, 3, 5, "freed", 4, 0))

    def test_broken(self):
        whole = deal(GIVE + "day 3", "duty more : ann must send ask to cat within 9 days after broken give")
        self.things(whole, [], 4, ("give", 1, 3, 5, "open", 3, 0))
        self.things(whole, [], 5, ("give", 1, 3, 5, "late", 5, 0), ("more", 1, 5, 14, "open", 5, 0))
        self.things(whole, [], 9, ("give", 1, 3, 5, "late", 5, 0), ("more", 1, 5, 14, "open", 5, 0))
        self.things(whole, said("5 ask"), 9, ("give", 1, 3, 5, "done", 5, 0))

    def test_ended(self):
        whole = deal(GIVE + "ended", "end over : after letter note")
        self.things(whole, [], 9)
        self.things(whole, said("4 note", "5 note"), 5, ("give", 1, 4, 6, "open", 4, 0))

    def test_a_duty_by_itself(self):
        whole = deal(GIVE + "letter note", "duty more : ann must send ask to bob within 2 days after done more",
                     "duty first : bob must send note to ann within 3 days after done give",
                     "duty again : bob must send note to ann within 3 days after done again")
        self.things(whole, said("4 note", "5 ask", "6 note"), 6, ("give", 1, 4, 6, "done", 5, 0),
                    ("give", 2, 6, 8, "open", 6, 0), ("first", 1, 5, 8, "done", 6, 0))
        whole = deal("duty give : ann must send ask to bob within 2 days after done give", GIVE.replace("give", "seed")
                     + "day 1", "duty next : ann must send ask to bob within 2 days after done next")
        self.things(whole, said("2 ask", "3 ask"), 9, ("seed", 1, 1, 3, "done", 2, 0))

    def test_chain_of_things_that_go_on_by_themselves(self):
        whole = deal("duty seed : ann must send ask to bob within 1 days after day 1",
                     "duty more : ann must send ask to bob within 1 days after broken seed",
                     "duty much : ann must send ask to bob within 1 days after broken more")
        self.things(whole, [], 9, ("seed", 1, 1, 2, "late", 2, 0), ("more", 1, 2, 3, "late", 3, 0),
                    ("much", 1, 3, 4, "late", 4, 0))

    def test_two_duties_with_one_trigger_go_in_the_texts_order(self):
        whole = deal(GIVE.replace("give", "zeta") + "day 3", GIVE.replace("give", "alpha") + "day 3")
        self.things(whole, said("4 ask"), 4, ("zeta", 1, 3, 5, "done", 4, 0), ("alpha", 1, 3, 5, "open", 3, 0))


class Once(Reckons):
    def test_for_each_thing_that_is_done(self):
        whole = deal("duty settle : ann must pay 5 coins to bob within 9 days after every 1 from 2",
                     "duty thank : bob must send note to ann within 4 days after done settle",
                     "free spare : settle after day 3000")
        self.assertEqual(self.state(whole, said("3 cash 9"), 3).things(), [
            ("settle", 1, 2, 11, "done", 3, 0), ("settle", 2, 3, 12, "open", 3, 1), ("thank", 1, 3, 7, "open", 3, 0)])
        self.assertEqual(self.state(whole, said("3 cash 10"), 3).things(), [
            ("settle", 1, 2, 11, "done", 3, 0), ("settle", 2, 3, 12, "done", 3, 0),
            ("thank", 1, 3, 7, "open", 3, 0), ("thank", 2, 3, 7, "open", 3, 0)])

    def test_for_each_thing_that_is_broken(self):
        # From days 4 and 5 one working day leads to day 7.
        whole = rested(((5, 6), ()), "duty give : ann must send ask to bob within 1 work after every 1 from 4",
                       "duty more : ann must send ask to cat within 9 days after broken give")
        self.things(whole, [], 6, ("give", 1, 4, 7, "open", 4, 0), ("give", 2, 5, 7, "open", 5, 0))
        self.things(whole, [], 7, ("give", 1, 4, 7, "late", 7, 0), ("give", 2, 5, 7, "late", 7, 0),
                    ("more", 1, 7, 16, "open", 7, 0), ("more", 2, 7, 16, "open", 7, 0))

    def test_a_letter_brings_one_thing(self):
        whole = deal(GIVE + "letter note", GIVE.replace("give", "other") + "letter note")
        self.things(whole, said("4 note"), 4, ("give", 1, 4, 6, "open", 4, 0), ("other", 1, 4, 6, "open", 4, 0))

    def test_a_morning_brings_one_thing(self):
        whole = deal(GIVE + "every 1 from 3", GIVE.replace("give", "other") + "every 1 from 3")
        self.things(whole, [], 3, ("give", 1, 3, 5, "open", 3, 0), ("other", 1, 3, 5, "open", 3, 0))

    def test_the_end_once(self):
        whole = deal(GIVE + "ended", "end over : after letter note", "end stop : after letter note",
                     "end more : after letter ask")
        state = self.state(whole, said("4 note", "5 ask", "6 note"), 9)
        self.assertEqual(state.ended, 4)
        self.assertEqual(state.things(), [("give", 1, 4, 6, "done", 5, 0)])


class AtMostTwo(Reckons):
    def test_open_ones(self):
        whole = deal("duty give : ann must send ask to bob within 30 days after every 1 from 0")
        one, two = ("give", 1, 0, 30, "open", 0, 0), ("give", 2, 1, 31, "open", 1, 0)
        self.things(whole, [], 0, one)
        for day in (1, 2, 29):
            self.things(whole, [], day, one, two)
        # What isn't brought takes no number.
        self.things(whole, said("5 ask"), 5, ("give", 1, 0, 30, "done", 5, 0), two)
        self.things(whole, said("5 ask"), 9, ("give", 1, 0, 30, "done", 5, 0), two, ("give", 3, 6, 36, "open", 6, 0))

    def test_late_ones(self):
        whole = deal("duty give : ann must send ask to bob within 1 days after every 1 from 0")
        late = [("give", 1, 0, 1, "late", 1, 0), ("give", 2, 1, 2, "late", 2, 0)]
        self.things(whole, [], 1, late[0], ("give", 2, 1, 2, "open", 1, 0))
        self.things(whole, [], 3000, *late)
        self.things(whole, said("9 ask"), 10, ("give", 1, 0, 1, "done", 9, 0), late[1],
                    ("give", 3, 10, 11, "open", 10, 0))

    def test_of_each_duty_by_itself(self):
        whole = deal("duty give : ann must send ask to bob within 30 days after every 1 from 0",
                     "duty more : ann must send ask to bob within 30 days after every 1 from 0")
        self.assertEqual([thing[:2] for thing in self.state(whole, [], 9).things()],
                         [("give", 1), ("give", 2), ("more", 1), ("more", 2)])

    def test_counted_behind_what_the_letter_does(self):
        whole = deal("duty give : ann must send ask to bob within 30 days after letter ask")
        self.things(whole, said("1.1 ask"), 1, ("give", 1, 1, 31, "open", 1, 0))
        # Each further letter does the one and brings another one.
        self.things(whole, said("1.1 ask", "1.2 ask", "2 ask"), 2, ("give", 1, 1, 31, "done", 1, 0),
                    ("give", 2, 1, 31, "done", 2, 0), ("give", 3, 2, 32, "open", 2, 0))
        whole = deal("duty give : ann must send ask to bob within 30 days after letter note",
                     "duty more : ann must send ask to cat within 9 days after letter ask")
        self.assertEqual(len(self.state(whole, said("1 note", "1.2 note", "1.3 note", "2 note"), 2).things()), 2)

    def test_counted_behind_what_is_freed(self):
        whole = deal(GIVE + "letter note", "free spare : give after letter note while had ask")
        letters = said("1.1 note", "1.2 note", "1.3 ask", "1.4 note", "1.5 note", "1.6 note")
        self.things(whole, letters[:2], 1, ("give", 1, 1, 3, "open", 1, 0), ("give", 2, 1, 3, "open", 1, 0))
        self.things(whole, letters[:4], 1, ("give", 1, 1, 3, "done", 1, 0), ("give", 2, 1, 3, "freed", 1, 0),
                    ("give", 3, 1, 3, "open", 1, 0))
        self.things(whole, letters, 1, ("give", 1, 1, 3, "done", 1, 0), ("give", 2, 1, 3, "freed", 1, 0),
                    ("give", 3, 1, 3, "freed", 1, 0), ("give", 4, 1, 3, "freed", 1, 0), ("give", 5, 1, 3, "open", 1, 0))

    def test_counted_behind_the_end(self):
        whole = deal(GIVE + "ended", GIVE.replace("give", "other") + "every 1 from 0", "end over : after letter note")
        self.things(whole, said("4 note"), 4, ("give", 1, 4, 6, "open", 4, 0), ("other", 1, 0, 2, "freed", 4, 0),
                    ("other", 2, 1, 3, "freed", 4, 0))

    def test_those_brought_in_the_phase(self):
        """Two are done, and one is open: of the two that this would bring, one has room."""
        whole = deal("duty settle : ann must pay 5 coins to bob within 9 days after every 1 from 2",
                     "duty thank : bob must send note to ann within 20 days after done settle")
        letters = said("2 cash 5", "4 cash 10")
        self.things(whole, letters, 4, ("settle", 1, 2, 11, "done", 2, 0), ("settle", 2, 3, 12, "done", 4, 0),
                    ("settle", 3, 4, 13, "done", 4, 0), ("thank", 1, 2, 22, "open", 2, 0),
                    ("thank", 2, 4, 24, "open", 4, 0))
        self.things(whole, letters + said("5 cash 5"), 5, ("settle", 1, 2, 11, "done", 2, 0),
                    ("settle", 2, 3, 12, "done", 4, 0), ("settle", 3, 4, 13, "done", 4, 0),
                    ("settle", 4, 5, 14, "done", 5, 0), ("thank", 1, 2, 22, "open", 2, 0),
                    ("thank", 2, 4, 24, "open", 4, 0))


class Amounts(Reckons):
    def shared(self, share, coins):
        whole = deal(f"duty part : bob must pay {share} to ann within 4 days after letter cash")
        return [thing[6] for thing in self.state(whole, said(f"3 cash {coins}"), 3).things()]

    def test_coins(self):
        for coins in (1, 7, 1000000000):
            whole = deal(f"duty part : bob must pay {coins} coins to ann within 4 days after day 3")
            self.things(whole, [], 3, ("part", 1, 3, 7, "open", 3, coins))

    def test_coins_whatever_the_letter_brings(self):
        whole = deal("duty part : bob must pay 5 coins to ann within 4 days after letter cash")
        self.things(whole, said("3 cash 1"), 3, ("part", 1, 3, 7, "open", 3, 5))
        whole = deal("duty part : bob must pay 5 coins to ann within 4 days after letter ask")
        self.things(whole, said("3 ask"), 3, ("part", 1, 3, 7, "open", 3, 5))

    def test_shares_are_rounded_down(self):
        for share, coins, amount in (
            ("1 / 1", 1, 1), ("1 / 1", 1000000000, 1000000000), ("2 / 3", 10, 6), ("2 / 3", 2, 1), ("1 / 2", 3, 1),
            ("999 / 1000", 1000, 999), ("999 / 1000", 999, 998), ("1 / 1000", 1999, 1), ("1000 / 1000", 7, 7),
            ("7 / 9", 1000000000, 777777777), ("1 / 2", 2, 1), ("3 / 7", 5, 2),
        ):
            self.assertEqual(self.shared(share, coins), [amount], share)

    def test_no_thing_of_an_amount_of_0(self):
        for share, coins in (("1 / 2", 1), ("1 / 1000", 999), ("999 / 1000", 1), ("2 / 5", 2), ("1 / 3", 2)):
            self.assertEqual(self.shared(share, coins), [], share)
        whole = deal("duty part : bob must pay 1 / 3 to ann within 4 days after letter cash")
        self.things(whole, said("3 cash 3", "4 cash 2", "5 cash 8"), 5, ("part", 1, 3, 7, "open", 3, 1),
                    ("part", 2, 5, 9, "open", 5, 2))

    def test_of_all_the_coins_of_the_letter(self):
        """What is paid of an elder debt counts, too, but not what was put by."""
        whole = deal("duty settle : ann must pay 5 coins to bob within 4 days after day 1",
                     "duty part : bob must pay 1 / 2 to ann within 4 days after letter cash")
        self.things(whole, said("2 cash 7", "3 cash 6"), 3, ("settle", 1, 1, 5, "done", 2, 0),
                    ("part", 1, 2, 6, "open", 2, 3), ("part", 2, 3, 7, "open", 3, 3))

    def test_a_thing_to_send_has_none(self):
        self.things(deal(GIVE + "letter cash"), said("3 cash 1"), 3, ("give", 1, 3, 5, "open", 3, 0))


class Due(Reckons):
    def due(self, rest, span, brought):
        whole = rested(rest, f"duty give : ann must send ask to bob within {span} after day {brought}")
        return [thing[3] for thing in self.state(whole, [], brought).things()]

    def test_by_days(self):
        for rest in (((), ()), ((0, 1, 2, 3), tuple(range(20)))):
            for span, brought, due in (("1 days", 0, 1), ("30 days", 0, 30), ("7 days", 4, 11), ("1 days", 3000, 3001),
                                       ("30 days", 3000, 3030), ("30 days", 2970, 3000), ("30 days", 2971, 3001)):
                self.assertEqual(self.due(rest, span, brought), [due])

    def test_by_working_days(self):
        for rest, span, brought, due in (
            (((), ()), "1 work", 4, 5), (((), ()), "30 work", 3000, 3030), (((5, 6), ()), "1 work", 3, 4),
            (((5, 6), ()), "1 work", 4, 7), (((5, 6), ()), "5 work", 4, 11), (((5, 6), ()), "6 work", 4, 14),
            (((5, 6), (7,)), "1 work", 4, 8), (((5, 6), (7, 8, 11)), "3 work", 4, 14), (((), (5, 6)), "1 work", 4, 7),
            (((0, 1, 2, 3), ()), "30 work", 0, 69), (((0, 1, 2, 3), tuple(range(4, 24))), "1 work", 4, 25),
            (((5, 6), (3000,)), "1 work", 2999, 3003), (((5, 6), ()), "30 work", 3000, 3042),
        ):
            self.assertEqual(self.due(rest, span, brought), [due], (rest, span, brought))

    def test_late_on_days_of_rest_too(self):
        whole = rested(((0, 1, 2, 3), (4, 5, 6)), "duty give : ann must send ask to bob within 2 days after day 3")
        self.things(whole, [], 5, ("give", 1, 3, 5, "late", 5, 0))

    def test_brought_on_days_of_rest_too(self):
        whole = rested(((5, 6), (5,)), GIVE + "every 7 from 5")
        self.things(whole, [], 12, ("give", 1, 5, 7, "late", 7, 0), ("give", 2, 12, 14, "open", 12, 0))

    def test_behind_day_3000(self):
        whole = deal("duty give : ann must send ask to bob within 1 days after every 1 from 2999")
        state = self.state(whole, [], 3000)
        self.assertEqual(state.things(),
                         [("give", 1, 2999, 3000, "late", 3000, 0), ("give", 2, 3000, 3001, "open", 3000, 0)])
        self.assertEqual(state.owed(), [("ann", "bob", ("ask",), 3000, 0), ("ann", "bob", ("ask",), 3001, 0)])


class AheadOfThePhase(Reckons):
    def test_of_a_duty_by_a_letter(self):
        whole = deal(GIVE + "letter note while had note")
        self.things(whole, said("4 note"), 4)
        self.things(whole, said("4.1 note", "4.2 note"), 4, ("give", 1, 4, 6, "open", 4, 0))
        whole = deal(GIVE + "letter note while not had note")
        self.things(whole, said("4.1 note", "4.2 note"), 4, ("give", 1, 4, 6, "open", 4, 0))

    def test_of_a_duty_in_the_morning(self):
        whole = deal(GIVE + "every 1 from 3 while not owes give")
        self.things(whole, [], 4, ("give", 1, 3, 5, "open", 3, 0))
        whole = deal(GIVE + "day 3", GIVE.replace("give", "more") + "day 3 while owes give",
                     GIVE.replace("give", "much") + "day 4 while owes give")
        self.things(whole, [], 4, ("give", 1, 3, 5, "open", 3, 0), ("much", 1, 4, 6, "open", 4, 0))

    def test_of_a_duty_in_the_evening(self):
        whole = deal("duty give : ann must send ask to bob within 1 days after every 1 from 3",
                     "duty more : ann must send ask to cat within 9 days after broken give while broken give")
        self.things(whole, [], 4, ("give", 1, 3, 4, "late", 4, 0), ("give", 2, 4, 5, "open", 4, 0))
        self.things(whole, [], 5, ("give", 1, 3, 4, "late", 4, 0), ("give", 2, 4, 5, "late", 5, 0),
                    ("more", 1, 5, 14, "open", 5, 0))

    def test_before_is_asked_of_the_day_in_all_phases(self):
        rows = ["give : ann must send ask to bob within 1 days after day 4 while ",
                "more : ann must send ask to bob within 9 days after letter note while ",
                "much : ann must send ask to bob within 9 days after broken seed while "]
        seed = "duty seed : ann must send ask to bob within 1 days after day 3"
        for day, names in ((4, []), (5, ["give", "more", "much"]), (0, []), (3000, ["give", "more", "much"])):
            whole = deal(seed, *[f"duty {row}before {day}" for row in rows])
            self.assertEqual([thing[0] for thing in self.state(whole, said("4 note"), 4).things()[1:]], names)

    def test_of_free_and_end_clauses(self):
        whole = deal(GIVE + "day 3", "free spare : give after letter note while had note")
        self.things(whole, said("4 note"), 4, ("give", 1, 3, 5, "open", 3, 0))
        self.things(whole, said("4.1 note", "4.2 note"), 4, ("give", 1, 3, 5, "freed", 4, 0))
        whole = deal(GIVE + "day 3", "end over : after letter note while had note")
        self.assertIsNone(self.state(whole, said("4 note"), 9).ended)
        self.assertEqual(self.state(whole, said("4 note", "6 note"), 9).ended, 6)
        whole = deal(GIVE + "day 3", "end over : after broken give while broken give",
                     "end stop : after done give while broken give")
        self.assertIsNone(self.state(whole, [], 9).ended)
        self.assertEqual(self.state(whole, said("9 ask"), 9).ended, 9)

    def test_free_and_end_in_one_phase(self):
        """Neither sees what the other one does."""
        whole = deal(GIVE + "day 3 stays", "free spare : give after day 4 while not ended",
                     "end over : after day 4 while owes give")
        state = self.state(whole, [], 4)
        self.assertEqual(state.ended, 4)
        self.assertEqual(state.things(), [("give", 1, 3, 5, "freed", 4, 0)])

    def test_what_the_end_brings_while_it_has_not_ended(self):
        whole = deal(GIVE + "ended while not ended", GIVE.replace("give", "more") + "ended while ended",
                     "end over : after day 4")
        self.things(whole, [], 9, ("give", 1, 4, 6, "late", 6, 0))

    def test_owes_and_broken_of_freed_and_done_things(self):
        rows = (GIVE + "day 3", "duty more : ann must send ask to cat within 9 days after day 8 while owes give",
                "duty much : bob must send note to cat within 9 days after day 8 while broken give")
        for letters, clause, names in (
            ([], (), ["more", "much"]), (said("4 ask"), (), []), (said("6 ask"), (), ["much"]),
            ([], ("free spare : give after day 4",), []), ([], ("free spare : give after day 6",), ["much"]),
        ):
            state = self.state(deal(*rows, *clause), letters, 8)
            self.assertEqual([thing[0] for thing in state.things()[1:]], names)


class Free(Reckons):
    def test_open_and_late_things_of_its_duty_alone(self):
        whole = deal("duty give : ann must send ask to bob within 2 days after every 3 from 1",
                     "duty more : ann must send ask to bob within 2 days after day 3", "free spare : give after day 5")
        self.things(whole, [], 5, ("give", 1, 1, 3, "freed", 5, 0), ("give", 2, 4, 6, "freed", 5, 0),
                    ("more", 1, 3, 5, "late", 5, 0))
        self.assertEqual(self.state(whole, [], 5).broken(), [("give", 1, 3), ("more", 1, 5)])
        self.things(whole, said("3 ask"), 5, ("give", 1, 1, 3, "done", 3, 0), ("give", 2, 4, 6, "freed", 5, 0),
                    ("more", 1, 3, 5, "late", 5, 0))

    def test_freed_once(self):
        whole = deal(GIVE + "day 3", "free spare : give after every 1 from 4", "free more : give after day 4")
        self.things(whole, [], 9, ("give", 1, 3, 5, "freed", 4, 0))

    def test_what_is_paid_of_a_freed_thing_is_told(self):
        whole = deal("duty settle : ann must pay 9 coins to bob within 5 days after day 1",
                     "free spare : settle after day 3")
        state = self.state(whole, said("2 cash 4", "4 cash 3"), 9)
        self.assertEqual(state.things(), [("settle", 1, 1, 6, "freed", 3, 5)])
        self.assertEqual((state.owed(), state.put_by()), ([], {("ann", "bob"): 3}))

    def test_each_trigger(self):
        other = "duty other : bob must send note to ann within 1 days after day 3"
        for trigger, letters, day in (
            ("day 4", [], 4), ("every 2 from 3", [], 5), ("letter back", said("4 back 1"), 4),
            ("done other", said("4 note"), 4),
            ("broken other", [], 4), ("letter ask", said("6 cash 1"), None), ("day 0", [], None),
            ("done other", said("3.1 back 1"), None), ("broken other", said("4 note"), None), ("every 4 from 1", [], 5),
        ):
            whole = deal("duty give : ann must send ask to bob within 20 days after day 3", other,
                         f"free spare : give after {trigger}")
            found = self.state(whole, letters, 6).things()[0]
            self.assertEqual(found[4:6], ("open", 3) if day is None else ("freed", day), trigger)

    def test_behind_what_the_phase_does_itself(self):
        """The letter does its thing ahead: so it isn't freed; what is late in an evening is broken ahead."""
        whole = deal(GIVE + "day 3", "free spare : give after letter ask",
                     "duty thank : bob must send note to ann within 1 days after done give")
        self.things(whole, said("4 ask"), 4, ("give", 1, 3, 5, "done", 4, 0), ("thank", 1, 4, 5, "open", 4, 0))
        whole = deal(GIVE + "day 3", "free spare : give after broken give")
        state = self.state(whole, [], 5)
        self.assertEqual(state.things(), [("give", 1, 3, 5, "freed", 5, 0)])
        self.assertEqual(state.broken(), [("give", 1, 5)])

    def test_ahead_of_what_the_phase_brings(self):
        whole = deal(GIVE + "day 3", "free spare : give after day 3")
        self.things(whole, [], 4, ("give", 1, 3, 5, "open", 3, 0))
        whole = deal(GIVE + "letter note", "free spare : give after letter note")
        self.things(whole, said("4.1 note", "4.2 note"), 4, ("give", 1, 4, 6, "freed", 4, 0),
                    ("give", 2, 4, 6, "open", 4, 0))


class End(Reckons):
    def test_what_stays(self):
        whole = deal("duty give : ann must send ask to bob within 2 days after every 3 from 1",
                     "duty keep : ann must send ask to bob within 2 days after every 3 from 1 stays",
                     "duty thank : bob must send note to ann within 2 days after done give",
                     "end over : after day 5")
        state = self.state(whole, said("2 ask"), 5)
        self.assertEqual(state.ended, 5)
        self.assertEqual(state.things(), [
            ("give", 1, 1, 3, "done", 2, 0), ("give", 2, 4, 6, "freed", 5, 0), ("keep", 1, 1, 3, "late", 3, 0),
            ("keep", 2, 4, 6, "open", 4, 0), ("thank", 1, 2, 4, "freed", 5, 0)])
        self.assertEqual(state.broken(), [("keep", 1, 3), ("thank", 1, 4)])
        # What stayed goes on.
        state = self.state(whole, said("2 ask", "6 ask"), 9)
        self.assertEqual(state.things()[2:4], [("keep", 1, 1, 3, "done", 6, 0), ("keep", 2, 4, 6, "late", 6, 0)])

    def test_nothing_is_brought_in_its_phase_or_behind_it(self):
        rows = (GIVE + "letter note", GIVE.replace("give", "more") + "every 1 from 5",
                GIVE.replace("give", "much") + "done keep",
                "duty keep : ann must send ask to bob within 9 days after day 1 stays", "end over : after letter note")
        whole = deal(*rows)
        self.things(whole, said("4 note", "6 note", "7 ask"), 9, ("keep", 1, 1, 10, "done", 7, 0))
        whole = deal(*rows[:-1], "end over : after day 5")
        self.things(whole, [], 9, ("keep", 1, 1, 10, "open", 1, 0))
        whole = deal("duty keep : ann must send ask to bob within 3 days after day 1 stays",
                     GIVE + "broken keep", "end over : after broken keep")
        self.things(whole, [], 9, ("keep", 1, 1, 4, "late", 4, 0))

    def test_in_phases_ahead_on_its_day(self):
        whole = deal(GIVE + "letter note", GIVE.replace("give", "more") + "day 4", "end over : after letter back")
        self.things(whole, said("4.1 note", "4.2 back 1", "4.3 note"), 4, ("give", 1, 4, 6, "freed", 4, 0),
                    ("more", 1, 4, 6, "freed", 4, 0))

    def test_what_it_brings_is_not_freed_by_it(self):
        whole = deal(GIVE + "ended", "duty more : bob must pay 4 coins to ann within 1 days after ended stays",
                     "end over : after day 4")
        self.things(whole, [], 4, ("give", 1, 4, 6, "open", 4, 0), ("more", 1, 4, 5, "open", 4, 4))
        self.things(whole, said("5 ask", "5.2 back 4"), 9, ("give", 1, 4, 6, "done", 5, 0),
                    ("more", 1, 4, 5, "done", 5, 0))

    def test_each_trigger(self):
        give = "duty give : ann must send ask to bob within 1 days after day 3"
        for trigger, letters, day in (
            ("day 0", [], 0), ("day 4", [], 4), ("day 7", [], None), ("every 2 from 5", [], 5),
            ("letter back", said("4 back 1"), 4),
            ("done give", said("4 ask"), 4), ("broken give", [], 4), ("broken give", said("4 ask"), None),
            ("done give", said("5 ask"), 5), ("done give", said("2 ask"), None), ("letter note", said("4 ask"), None),
        ):
            self.assertEqual(self.state(deal(give, f"end over : after {trigger}"), letters, 6).ended, day, trigger)

    def test_free_clauses_still_go(self):
        whole = deal(GIVE + "day 3 stays", "end over : after day 4", "free spare : give after letter note")
        self.things(whole, said("5 note"), 5, ("give", 1, 3, 5, "freed", 5, 0))

    def test_letters_still_count(self):
        whole = deal(GIVE + "day 3", "end over : after day 4")
        state = self.state(whole, said("5 ask", "6 cash 8"), 9)
        self.assertEqual(state.had(), ["ask", "cash"])
        self.assertEqual(state.put_by(), {("ann", "bob"): 8})
        self.assertEqual(state.things(), [("give", 1, 3, 5, "freed", 4, 0)])

    def test_behind_the_free_clauses_of_its_phase(self):
        """What is freed by either is told alike; things late are broken all the same."""
        whole = deal(GIVE + "day 1", "free spare : give after day 4", "end over : after day 4")
        state = self.state(whole, [], 4)
        self.assertEqual(state.things(), [("give", 1, 1, 3, "freed", 4, 0)])
        self.assertEqual(state.broken(), [("give", 1, 3)])


class Later(Reckons):
    """A thing is done, late or freed in a later phase than the one that brings it."""

    def test_a_letter_does_not_do_what_it_brings(self):
        whole = deal(GIVE + "letter ask")
        self.things(whole, said("4 ask"), 4, ("give", 1, 4, 6, "open", 4, 0))

    def test_coins_do_not_pay_what_they_bring(self):
        whole = deal("duty settle : ann must pay 4 coins to bob within 3 days after letter cash")
        # In the letter's phase they are put by, and go to the thing in the evening.
        state = self.state(whole, said("4.1 cash 3"), 4)
        self.assertEqual(state.things(), [("settle", 1, 4, 7, "open", 4, 1)])
        self.assertEqual(state.put_by(), {})
        whole = deal("duty settle : ann must pay 4 coins to bob within 3 days after letter cash",
                     "free spare : settle after letter ask")
        state = self.state(whole, said("4.1 cash 9", "4.2 ask"), 4)
        self.assertEqual(state.things(), [("settle", 1, 4, 7, "freed", 4, 4)])
        self.assertEqual(state.put_by(), {("ann", "bob"): 9})

    def test_what_an_evening_brings_is_paid_by_the_next_one(self):
        whole = deal("duty give : bob must send note to ann within 1 days after day 3",
                     "duty settle : ann must pay 4 coins to bob within 1 days after broken give",
                     "duty thank : bob must send note to cat within 5 days after done settle")
        letters = said("2 cash 6")
        self.assertEqual(self.state(whole, letters, 4).things()[1:], [("settle", 1, 4, 5, "open", 4, 4)])
        self.assertEqual(self.state(whole, letters, 4).put_by(), {("ann", "bob"): 6})
        self.assertEqual(self.state(whole, letters, 5).things()[1:], [
            ("settle", 1, 4, 5, "done", 5, 0), ("thank", 1, 5, 10, "open", 5, 0)])
        self.assertEqual(self.state(whole, letters, 5).put_by(), {("ann", "bob"): 2})
        self.assertEqual(self.state(whole, letters, 5).broken(), [("give", 1, 4)])

    def test_morning_ahead_of_letters_ahead_of_evening(self):
        whole = deal("duty give : ann must send ask to bob within 1 days after day 4")
        self.things(whole, said("4 ask"), 4, ("give", 1, 4, 5, "done", 4, 0))
        self.things(whole, said("5 ask"), 5, ("give", 1, 4, 5, "done", 5, 0))
        self.assertEqual(self.state(whole, said("5.99 ask"), 9).broken(), [])
