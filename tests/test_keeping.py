"""Promise 24: who can keep its duties whatever the others send, and what each is to send."""

import random
import unittest

from dealtongue.agreements import first_wrong
from dealtongue.errors import HasCoins, NoAgreement, NoClause, NoDay, NoLetters, TooWide
from dealtongue.keeping import fate, sends
from dealtongue.reckoner import reckoned
from tests.conducts import Play, start
from tests.looking import COINS, GIVE, NARROW, WIDE, plain, plain_rested, worded
from tests.narrow import Contested, Narrow
from tests.samples import NO_DAYS, odd_things

# ann has to send ask, which counts only where bob lets it.
LEAVE = worded(plain(GIVE.format("2 days", "day 3")), ask=("had", "note"))
# Each note of bob's brings a thing, of which there are two at most: ann can do one each day.
PRESSED = plain(GIVE.format("1 days", "letter note"))
TURNS = {"ann": 1, "bob": 2, "cat": 3}


def said(*told):
    """Makes letters in turns of texts such as "3 ask"."""
    senders = {"ask": "ann", "note": "bob", "tell": "ann", "cry": "cat"}
    rows = [text.split(" ") for text in told]
    return [(int(day), TURNS[senders[word]], senders[word], word, 0) for day, word in rows]


def moment_at(agreement, letters, day):
    """The moment of the second reckoner behind letters, in the morning of a day or behind that day's letters."""
    moment = start(agreement)
    for now in range(day + 1):
        if now:
            moment = moment.evening().morning(now)
        for letter in sorted(letters):
            if letter[0] == now:
                moment = moment.behind(letter)
    return moment


class Fate(unittest.TestCase):
    def test_none_where_a_party_can_keep_its_duties(self):
        self.assertIsNone(fate(PRESSED, "ann"))
        self.assertIsNone(fate(PRESSED, "bob"))
        self.assertIsNone(fate(plain(GIVE.format("2 days", "day 3")), "ann"))
        self.assertIsNone(fate(plain(GIVE.format("1 days", "every 1 from 0")), "ann"))
        self.assertIsNone(fate(plain(GIVE.format("1 days", "day 3"), "free spare : give after day 4"), "ann"))

    def test_a_day_where_another_one_keeps_it_from_it(self):
        self.assertEqual(fate(LEAVE, "ann"), 5)
        self.assertIsNone(fate(LEAVE, "bob"))
        self.assertIsNone(fate(LEAVE, "ann", letters=said("0 note"), day=1))
        self.assertEqual(fate(LEAVE, "ann", letters=said("0 ask"), day=1), 5)
        self.assertEqual(fate(worded(plain(GIVE.format("2 days", "day 3")), ask=("had", "tell")), "ann"), None)
        whole = plain_rested(((5, 6), (8,)), GIVE.format("2 work", "day 4"))
        self.assertEqual(fate(worded(whole, ask=("had", "note")), "ann"), 9)
        self.assertEqual(fate(worded(whole, ask=("before", 3)), "ann"), 9)

    def test_what_nobody_can_help(self):
        self.assertEqual(fate(worded(plain(GIVE.format("2 days", "day 3")), ask=("ended",)), "ann"), 5)
        self.assertEqual(fate(worded(plain(GIVE.format("1 days", "every 4 from 3")), ask=("before", 5)), "ann"), 8)

    def test_one_letter_a_day(self):
        """Two things that are due on one day can both be done where there are two days for it."""
        rows = ["duty give : ann must send ask to bob within {} days after day 3",
                "duty more : ann must send tell to bob within {} days after day 3"]
        for span, lost in ((1, None), (2, None)):
            self.assertEqual(fate(plain(*[row.format(span) for row in rows]), "ann"), lost)
        both = [worded(plain(*[row.format(span) for row in rows]), ask=("not", ("before", 4)), tell=("not", ("before", 4)))
                for span in (1, 2)]
        self.assertEqual([fate(whole, "ann") for whole in both], [4, None])

    def test_the_others_bring_it_as_soon_as_they_can(self):
        whole = worded(plain(GIVE.format("3 days", "letter note")), ask=("not", ("had", "note")))
        self.assertEqual(fate(whole, "ann"), 3)
        self.assertEqual(fate(whole, "ann", day=7), 10)
        self.assertEqual(fate(worded(whole, note=("not", ("before", 5))), "ann"), 8)
        self.assertEqual(fate(worded(whole, note=("not", ("before", 5))), "ann", day=3000), 3003)

    def test_the_party_puts_it_off_as_long_as_it_can(self):
        """A duty that is done brings another one that can't be done: better late."""
        whole = plain("duty give : ann must send ask to bob within 3 days after day 1",
                      "duty more : ann must send tell to bob within 1 days after done give")
        self.assertEqual(fate(worded(whole, tell=("ended",)), "ann"), 5)
        self.assertEqual(fate(worded(whole, tell=("ended",), ask=("before", 3)), "ann"), 4)

    def test_the_order_of_turns(self):
        """ann's leave comes behind her turn, so that it is of use on the next day alone."""
        row = GIVE.format("1 days", "day 3")
        whole = worded(plain(row), ask=("all", ("had", "note"), ("not", ("before", 4))))
        self.assertEqual(fate(whole, "ann"), 4)
        late = worded(plain(row), ask=("had", "note"), note=("not", ("before", 4)))
        self.assertEqual(fate(late, "ann"), 4)
        turned = (("bob", "ann"),) + worded(plain(row, "free spare : give after letter note"), note=("had", "ask"))[1:]
        self.assertIsNone(fate(turned, "ann"))

    def test_broken_already_does_not_count(self):
        whole = plain(GIVE.format("2 days", "day 3"))
        for day in (6, 7, 3000):
            self.assertIsNone(fate(whole, "ann", day=day))
        self.assertIsNone(fate(whole, "ann", day=5))
        whole = worded(plain(GIVE.format("2 days", "every 4 from 3")), ask=("before", 4))
        self.assertEqual([fate(whole, "ann", day=day) for day in (0, 3, 4, 5, 6, 7, 8, 9, 10)],
                         [9, 9, 5, 5, 9, 9, 9, 9, None])
        # On day 10 two are late, so that none is brought any more.

    def test_all_others_play_together(self):
        head = ("parties ann bob cat", "word ask by ann", "word note by bob", "word cry by cat")
        whole = plain(GIVE.format("1 days", "letter note"), head=head)
        for note, cry, lost in ((("had", "cry"), None, 2), (("had", "cry"), ("ended",), None), (None, None, 1)):
            agreement = worded(whole, ask=("before", 0), note=note, cry=cry)
            self.assertEqual(fate(agreement, "ann"), lost)
            self.assertIsNone(fate(agreement, "cat"))

    def test_idle_letters_may_be_among_them(self):
        letters = [(0, 1, "ann", "ask", 5), (1, 2, "bob", "ask", 0), (2, 1, "ann", "nothing", 0)]
        self.assertEqual(fate(LEAVE, "ann", letters=letters, day=3), 5)
        self.assertEqual(fate(LEAVE, "ann", letters=letters + [(2, 2, "bob", "note", 1)], day=3), 5)
        self.assertIsNone(fate(LEAVE, "ann", letters=letters + [(2, 2, "bob", "note", 0)], day=3))

    def test_what_evenings_ahead_brought(self):
        """By the days on which they were: what is due by working days, and what was brought before a day."""
        rows = [GIVE.format("2 days", "day 1"), "duty more : ann must send tell to bob within {} after broken give"]
        whole = plain_rested(((4, 5), ()), rows[0], rows[1].format("2 work"))
        self.assertEqual(fate(worded(whole, tell=("ended",)), "ann", day=4), 7)
        whole = plain_rested(((5,), (6,)), rows[0].replace("day 1", "day 2"), rows[1].format("2 work"))
        self.assertEqual(fate(worded(whole, tell=("ended",)), "ann", day=6), 8)
        for last, lost in ((3, None), (4, 5), (5, 5)):
            whole = plain(rows[0], rows[1].format("2 days") + f" while before {last}")
            self.assertEqual(fate(worded(whole, tell=("ended",)), "ann", day=4), lost)

    def test_letters_of_days_ahead_count_by_their_days(self):
        for day, word, lost in ((0, ("before", 1), None), (1, ("before", 1), 5), (1, ("before", 2), None),
                                (0, ("not", ("before", 1)), 5), (1, ("not", ("before", 1)), None)):
            whole = worded(LEAVE, note=word)
            self.assertEqual(fate(whole, "ann", letters=said(f"{day} note"), day=3), lost)

    def test_letters_left_out(self):
        self.assertEqual(fate(LEAVE, "ann", letters=None, day=2), 5)
        self.assertEqual(fate(LEAVE, "ann", day=2, letters=[]), 5)

    def test_made_ones(self):
        seen = {}
        for seed in range(6000, 6120):
            some = random.Random(seed)
            agreement = Contested(seed).agreement() if seed % 2 else Narrow(seed, 5, 0.4).agreement()
            day = some.choice((0, 0, 2, 5))
            letters = made_turns(some, agreement, day)
            for party in agreement[0]:
                found = Play(agreement, party, day + 7).day_lost(moment_at(agreement, letters, day))
                told = fate(agreement, party, letters=letters, day=day)
                self.assertEqual(told if told is None or told <= day + 7 else None, found, (seed, party))
                seen[told is None] = seen.get(told is None, 0) + 1
        self.assertGreater(seen[False], 15)


def made_turns(some, agreement, day, turn=0):
    """Makes letters in turns to a day, some of them idle."""
    senders = {word[0]: word[1] for word in agreement[2]}
    letters = []
    for said_on in range(day + 1):
        for at, party in enumerate(agreement[0]):
            if some.random() < 0.5 and (said_on < day or at < turn):
                words = [word for word in senders if senders[word] == party] or ["none"]
                letters.append((said_on, at + 1, party, some.choice(words), int(some.random() < 0.1)))
    return letters


class Sends(unittest.TestCase):
    def test_of_the_party_none_by_which_it_is_broken_sooner(self):
        whole = plain(GIVE.format("2 days", "day 3"))
        self.assertEqual(sends(whole, "ann", "ann", [], 5), "ask")
        self.assertIn(sends(whole, "ann", "ann", [], 4), ("ask", "tell", None))
        self.assertIsNone(sends(worded(whole, ask=("ended",), tell=("ended",)), "ann", "ann", [], 5))
        # To do it would bring what can't be done.
        whole = worded(plain("duty give : ann must send ask to bob within 3 days after day 1",
                             "duty more : ann must send tell to bob within 1 days after done give"), tell=("had", "note"))
        for day in (1, 2, 3):
            self.assertNotEqual(sends(whole, "ann", "ann", [], day), "ask")
        self.assertEqual(sends(whole, "ann", "ann", [], 4), "ask")

    def test_of_another_one_what_brings_it(self):
        whole = worded(plain(GIVE.format("3 days", "letter note")), ask=("ended",))
        self.assertEqual(sends(whole, "ann", "bob", [], 0), "note")
        self.assertIsNone(sends(LEAVE, "ann", "bob", [], 0))
        self.assertEqual(sends(LEAVE, "ann", "bob", said("0 ask"), 0), None)
        self.assertIn(sends(LEAVE, "bob", "bob", said("0 note"), 1), ("note", None))

    def test_letters_of_the_day_ahead_of_the_turn(self):
        whole = worded(plain(GIVE.format("1 days", "letter tell"), "free spare : give after letter note"), ask=("ended",))
        for letters, word in ((said("4 tell"), None), (said("3 tell"), None)):
            self.assertEqual(sends(whole, "ann", "bob", letters, 4), word)
        whole = worded(plain(GIVE.format("1 days", "letter note")), ask=("ended",), note=("had", "tell"))
        self.assertEqual(sends(whole, "ann", "bob", said("4 tell"), 4), "note")
        self.assertIsNone(sends(whole, "ann", "bob", [], 4))
        self.assertNotEqual(sends(whole, "ann", "ann", [], 4), "tell")

    def test_a_word_that_counts_then(self):
        for seed in range(6200, 6230):
            some = random.Random(seed)
            agreement = Narrow(seed, 5, 0.3).agreement()
            day = some.choice((0, 1, 3))
            for turn, mover in enumerate(agreement[0]):
                letters = made_turns(some, agreement, day, turn)
                options = Play(agreement, mover, 0).options(moment_at(agreement, letters, day), turn)
                for party in agreement[0]:
                    self.assertIn(sends(agreement, party, mover, letters, day), options)

    def test_the_fate_stays_what_it_is(self):
        """Played out from each turn in all ways, the word that is told is as good as any."""
        seen = 0
        for seed in range(6300, 6420):
            some = random.Random(seed)
            agreement = Contested(seed).agreement()
            day = some.choice((0, 0, 2, 4))
            for turn, mover in enumerate(agreement[0]):
                letters = made_turns(some, agreement, day, turn)
                moment = moment_at(agreement, letters, day)
                for party in agreement[0]:
                    play = Play(agreement, party, day + 7)
                    word = sends(agreement, party, mover, letters, day)
                    options = play.options(moment, turn)
                    self.assertEqual(play.day_lost(options[word], turn + 1), play.day_lost(moment, turn), (seed, party))
                    seen += len({play.day_lost(further, turn + 1) for further in options.values()}) > 1
        self.assertGreater(seen, 5)

    def test_by_turns_to_the_told_day(self):
        """All playing as they are told, it is broken by the evening of the told day; the party alone, never."""
        for agreement in (LEAVE, worded(plain(GIVE.format("3 days", "letter note")), ask=("not", ("had", "note"))),
                          worded(plain(GIVE.format("1 days", "every 4 from 3")), ask=("before", 5))):
            told = fate(agreement, "ann")
            letters = []
            for day in range(told + 1):
                self.assertEqual(fate(agreement, "ann", letters=letters, day=day), told)
                for turn, mover in enumerate(agreement[0], start=1):
                    word = sends(agreement, "ann", mover, letters, day)
                    if word is not None:
                        letters.append((day, turn, mover, word, 0))
            self.assertEqual(reckoned(agreement, letters, told - 1).broken(), [])
            self.assertEqual(len(reckoned(agreement, letters, told).broken()), 1)

    def test_kept_against_any_others(self):
        some = random.Random(1)
        for agreement in (PRESSED, plain(GIVE.format("1 days", "every 1 from 0")), plain(GIVE.format("2 days", "day 3"))):
            for _ in range(5):
                letters = []
                for day in range(12):
                    word = sends(agreement, "ann", "ann", letters, day)
                    if word is not None:
                        letters.append((day, 1, "ann", word, 0))
                    if some.random() < 0.7:
                        letters.append((day, 2, "bob", "note", 0))
                self.assertEqual(reckoned(agreement, letters, 11).broken(), [])


class Refused(unittest.TestCase):
    def test_no_agreement_then_coins(self):
        for thing in odd_things():
            for function in (lambda: fate(thing, None, letters=(), day=None), lambda: sends(thing, None, None, (), None)):
                with self.assertRaises(NoAgreement) as caught:
                    function()
                self.assertEqual(caught.exception.place, first_wrong(thing))
        with self.assertRaises(HasCoins):
            fate(COINS, None, letters=(), day=None)
        with self.assertRaises(HasCoins):
            sends(COINS, None, None, (), None)

    def test_then_no_clause(self):
        for agreement in (NARROW, WIDE[0]):
            for thing in ["cat", "give", "ask", "duty"] + odd_things():
                with self.assertRaises(NoClause) as caught:
                    fate(agreement, thing, letters=(), day=None)
                self.assertEqual(caught.exception.name, thing)
                with self.assertRaises(NoClause) as caught:
                    sends(agreement, thing, "cow", (), None)
                self.assertEqual(caught.exception.name, thing)
                with self.assertRaises(NoClause) as caught:
                    sends(agreement, "ann", thing, (), None)
                self.assertEqual(caught.exception.name, thing)

    def test_then_no_day(self):
        for agreement in (NARROW, WIDE[0]):
            for day in NO_DAYS:
                with self.assertRaises(NoDay):
                    fate(agreement, "ann", letters=(), day=day)
                with self.assertRaises(NoDay):
                    sends(agreement, "ann", "bob", (), day)

    def test_then_no_letters(self):
        wrong = [(), tuple(said("1 ask")), [(1, 2, "ann", "ask", 0)], [(1, 1, "bob", "note", 0)], [(1, 3, "cat", "ask", 0)],
                 [(1, 1, "cat", "ask", 0)], said("4 note"), said("5 ask"), said("3000 note"), [(1, 2, "ann", "nothing", 0)],
                 said("1 ask", "1 tell"), said("1 note") + [(2, 1, "bob", "note", 0)], [None]]
        wrong += [thing for thing in odd_things() if thing is not None and thing != []]
        for agreement in (NARROW, WIDE[0]):
            for thing in wrong + [said("4 ask")]:
                with self.assertRaises(NoLetters):
                    fate(agreement, "ann", letters=thing, day=4)
            for thing in wrong + [None]:
                with self.assertRaises(NoLetters):
                    sends(agreement, "ann", "bob", thing, 4)
            with self.assertRaises(NoLetters):
                sends(agreement, "ann", "ann", said("4 ask"), 4)
            with self.assertRaises(NoLetters):
                fate(agreement, "ann", letters=said("0 ask"))
        self.assertIsNone(fate(NARROW, "bob", letters=said("3 ask", "3 note"), day=4))
        self.assertIn(sends(NARROW, "bob", "bob", said("4 ask"), 4), ("note", None))

    def test_then_too_wide(self):
        for agreement in WIDE:
            with self.assertRaises(TooWide):
                fate(agreement, "ann")
            with self.assertRaises(TooWide):
                sends(agreement, "bob", "ann", [], 3)
        fate(NARROW, "ann", letters=said("9 note"), day=3000)
