"""Promise 25: which texts are told alike, and what conduct parts those that aren't."""

import random
import unittest

from dealtongue.agreements import first_wrong
from dealtongue.alike import apart
from dealtongue.errors import HasCoins, NoAgreement, OtherParties, TooWide
from dealtongue.letters import are_letters
from dealtongue.reckoner import reckoned
from tests.conducts import first_apart
from tests.looking import COINS, GIVE, NARROW, WIDE, plain, plain_rested, worded
from tests.narrow import Narrow
from tests.samples import odd_things

BACK = "duty back : bob must send note to ann within 2 days after broken give"


def face(agreement, letters, day):
    """What is told of a State by [25]."""
    state = reckoned(agreement, letters, day)
    senders = {word[0]: word[1] for word in agreement[2]}
    pairs = {clause[1]: clause[2:4] for clause in agreement[3] if clause[0] == "duty"}
    broken = [pairs[row[0]] for row in state.broken()]
    owed = [row[:3] + (row[3] if row[3] > day else None,) + row[4:] for row in state.owed()]
    return (owed, [(word, senders[word]) for word in state.may()], state.ended is None,
            {pair: min(3, broken.count(pair)) for pair in broken})


class Apart(unittest.TestCase):
    maxDiff = None

    def alike(self, one, other):
        self.assertIsNone(apart(one, other))
        self.assertIsNone(apart(other, one))

    def parted(self, one, other, day, many):
        """They are parted first behind a day, by so many letters."""
        for pair in ((one, other), (other, one)):
            told = apart(*pair)
            self.assertEqual(told[:2], ("apart", day))
            self.assertEqual((len(told), len(told[2])), (3, many), told)
            self.assertTrue(are_letters(told[2]))
            self.assertTrue(all(letter[0] <= day for letter in told[2]))
            self.assertNotEqual(face(one, told[2], day), face(other, told[2], day))
            for ahead in range(day):
                self.assertEqual(face(one, told[2], ahead), face(other, told[2], ahead))

    def test_of_one_with_itself(self):
        for seed in range(40):
            agreement = Narrow(seed).agreement()
            self.assertIsNone(apart(agreement, agreement))
        self.alike(NARROW, NARROW)

    def test_clauses_and_words_in_another_order(self):
        one = plain(GIVE.format("2 days", "letter note"), BACK, "free spare : give after letter tell")
        parties, rest, words, clauses = one
        self.alike(one, (parties, rest, words[::-1], clauses[::-1]))
        # Of two duties that one word does on one day, the order tells which is done.
        rows = ["duty da : ann must send ask or tell to bob within 2 days after day 1",
                "duty db : ann must send ask to bob within 2 days after day 1"]
        self.parted(plain(*rows), plain(*rows[::-1]), 1, 1)

    def test_other_names(self):
        one = plain(GIVE.format("2 days", "letter note"), BACK)
        other = plain(GIVE.format("2 days", "letter note").replace("give", "hand"), BACK.replace("give", "hand"))
        self.alike(one, other)
        self.alike(one, plain(GIVE.format("2 days", "letter note"), BACK, "end over : after broken back while before 0"))

    def test_one_number_otherwise(self):
        give = GIVE.format("{}", "letter note")
        self.parted(plain(give.format("2 days")), plain(give.format("3 days")), 0, 1)
        self.alike(plain(give.format("2 days")), plain(give.format("2 work")))
        for day in (0, 4, 10):
            one, other = plain(GIVE.format("2 days", "day 10")), plain(GIVE.format("2 days", f"day {day}"))
            if day == 10:
                self.alike(one, other)
            else:
                self.parted(one, other, day, 0)
        row = GIVE.format("2 days", "every {} from {}")
        self.parted(plain(row.format(2, 1)), plain(row.format(3, 1)), 3, 0)
        self.parted(plain(row.format(2, 1)), plain(row.format(2, 3)), 1, 0)
        self.parted(plain("end over : after every 2 from 4"), plain("end over : after every 2 from 6"), 4, 0)
        self.alike(plain("end over : after every 2 from 4"), plain("end over : after day 4"))

    def test_by_a_letter_that_one_must_send(self):
        one = plain("end over : after letter ask while had note")
        other = plain("end over : after letter ask while ( had note and had tell )")
        self.parted(one, other, 0, 2)
        self.parted(one, plain("end over : after letter ask while ( had note and not before 7 )"), 0, 2)
        self.parted(plain("end over : after letter ask while not before 7"),
                    plain("end over : after letter ask while not before 9"), 7, 1)

    def test_by_what_may_be_sent(self):
        one = plain("end over : after day 10")
        self.parted(one, worded(one, ask=("before", 5)), 5, 0)
        self.parted(one, worded(one, ask=("not", ("had", "ask"))), 0, 1)
        self.alike(one, worded(one, ask=("any", ("had", "note"), ("not", ("had", "note")))))
        head = ("parties ann bob", "word ask by ann", "word note by bob", "word more by ann")
        self.parted(one, plain("end over : after day 10", head=head), 0, 0)
        # Another sender of a word parts them, too.
        self.parted(one, plain("end over : after day 10", head=head[:1] + ("word ask by bob",) + head[2:3]
                               + ("word tell by ann",)), 0, 0)

    def test_by_ends(self):
        self.parted(plain("end over : after day 3"), plain("end over : after day 4"), 3, 0)
        self.alike(plain("end over : after day 3 while ended"), plain("end over : after day 4 while ended"))
        # Ended on one day by different clauses, with the same freed.
        give = GIVE.format("3 days", "day 2")
        self.alike(plain(give, "end over : after day 4"), plain(give, "end over : after day 4", "free spare : give after day 4"))
        self.parted(plain(give, "end over : after day 4"), plain(give + " stays", "end over : after day 4"), 4, 0)
        self.parted(plain(give, "end over : after day 4"), plain(give, "free spare : give after day 4"), 4, 0)

    def test_by_what_is_owed(self):
        one = plain(GIVE.format("2 days", "day 3"))
        self.parted(one, plain(GIVE.format("2 days", "day 3").replace("ask", "tell")), 3, 0)
        self.parted(one, plain(GIVE.format("2 days", "day 3").replace("send ask", "send ask or tell")), 3, 0)
        head = ("parties ann bob cat", "word ask by ann")
        self.parted(plain(GIVE.format("2 days", "day 3"), head=head),
                    plain(GIVE.format("2 days", "day 3").replace("to bob", "to cat"), head=head), 3, 0)

    def test_late_things_are_owed_without_their_day(self):
        """One day sooner or later no longer matters where it is late."""
        one = plain("duty give : ann must send ask to bob within 1 days after day 3", "end over : after day 10")
        other = plain("duty give : ann must send ask to bob within 1 days after day 4", "end over : after day 10")
        self.parted(one, other, 3, 0)
        one = plain_rested(((0, 1, 2, 3), ()), GIVE.format("1 work", "letter note"))
        other = plain_rested(((0, 1, 2, 3), ()), GIVE.format("2 work", "letter note"))
        self.parted(one, other, 0, 1)

    def test_broken_to_three(self):
        """A thing more or less that is broken parts them where it is one of the first three of the two."""
        base = "duty base : {} must send {} to {} within 1 days after every 1 from {}"
        more = ["duty more : ann must send ask to bob within 1 days after day 4", "free one : base after broken base",
                "free two : more after broken more"]
        never = {"ask": ("ended",), "note": ("ended",), "tell": ("ended",)}
        for first, sooner in ((0, False), (1, True), (2, True), (4, True), (10, True)):
            # The base is broken on each second day. In the one it is broken on day 5 and freed; in the other it is freed ahead of that.
            for names, parts in ((("ann", "tell", "bob"), sooner), (("bob", "note", "ann"), True)):
                row = base.format(*names, first)
                one = worded(plain(row, *more), **never)
                other = worded(plain(row, *more, "free three : more after day 5"), **never)
                if parts:
                    self.parted(one, other, 5, 0)
                else:
                    self.alike(one, other)

    def test_days_of_rest(self):
        row = GIVE.format("1 work", "letter note")
        self.parted(plain_rested(((5, 6), ()), row), plain_rested(((5,), ()), row), 4, 1)
        self.parted(plain_rested(((5, 6), ()), row), plain_rested(((5, 6), (9,)), row), 8, 1)
        self.parted(plain_rested(((5, 6), ()), row), plain_rested(((), (5, 6)), row), 11, 1)
        self.alike(plain_rested(((5, 6), ()), row), plain_rested(((5, 6), (6,)), row))
        self.alike(plain_rested(((5, 6), (3,)), GIVE.format("2 days", "letter note")), plain(GIVE.format("2 days", "letter note")))

    def test_steps_beside_days_of_rest(self):
        """Each may have what the other hasn't: their days meet behind many."""
        one = plain_rested(((0, 1, 2, 3), ()), GIVE.format("3 work", "letter note"))
        other = plain("end over : after every 4 from 3 while broken give", GIVE.format("3 days", "letter note"))
        self.parted(one, other, 0, 1)
        self.parted(plain_rested(((5, 6), ()), GIVE.format("1 days", "letter note")),
                    plain(GIVE.format("1 days", "letter note"), "end over : after every 3 from 10 while had ask"), 10, 1)

    def test_made_ones(self):
        seen = {}
        for seed in range(7000, 7100):
            some = random.Random(seed)
            agreement = Narrow(seed, 5, (0.6, 0.3)[seed % 2]).agreement()
            other = changed(some, agreement)
            found = first_apart(agreement, other, 8)
            told = apart(agreement, other)
            if found is not None:
                self.parted(agreement, other, *found)
            elif told is not None:
                self.assertGreater(told[1], 8)
                self.parted(agreement, other, told[1], len(told[2]))
            seen[told is None] = seen.get(told is None, 0) + 1
        self.assertGreater(min(seen.values()), 20)


def changed(some, agreement):
    """Makes an agreement that differs by little."""
    parties, rest, words, clauses = agreement
    at = some.randrange(len(clauses))
    clause = clauses[at]
    draw = some.random()
    if clause[0] != "duty":
        clause = () if draw < 0.4 else (clause[:-1] + (None,),)
    elif draw < 0.3:
        clause = (clause[:5] + ((clause[5][0], some.randint(1, 3)),) + clause[6:],)
    elif draw < 0.6:
        clause = (clause[:7] + (None,) + clause[8:],)
    else:
        clause = (clause[:8] + (not clause[8],),)
    found = (parties, rest, words, clauses[:at] + tuple(clause) + clauses[at + 1:])
    return found if first_wrong(found) is None else agreement


class Refused(unittest.TestCase):
    def test_no_agreement_of_the_first_then_of_the_second(self):
        for thing in odd_things():
            for other in (None, NARROW, COINS):
                with self.assertRaises(NoAgreement) as caught:
                    apart(thing, other)
                self.assertEqual(caught.exception.place, first_wrong(thing))
            for one in (NARROW, COINS, WIDE[0]):
                with self.assertRaises(NoAgreement) as caught:
                    apart(one, thing)
                self.assertEqual(caught.exception.place, first_wrong(thing))

    def test_then_coins_then_other_parties_then_too_wide(self):
        turned = (("bob", "ann"),) + NARROW[1:]
        more = (("ann", "bob", "cat"),) + NARROW[1:]
        for other in (NARROW, COINS, turned, WIDE[0]):
            for pair in ((COINS, other), (other, COINS)):
                with self.assertRaises(HasCoins):
                    apart(*pair)
        for other in (turned, more):
            for one in (NARROW,) + WIDE:
                for pair in ((one, other), (other, one)):
                    with self.assertRaises(OtherParties):
                        apart(*pair)
        for agreement in WIDE:
            for pair in ((agreement, NARROW), (NARROW, agreement), (agreement, agreement)):
                with self.assertRaises(TooWide):
                    apart(*pair)

    def test_what_is_told_is_the_askers_own(self):
        one, other = plain("end over : after letter ask"), plain("end over : after letter tell")
        told = apart(one, other)
        told[2].clear()
        self.assertEqual(len(apart(one, other)[2]), 1)
