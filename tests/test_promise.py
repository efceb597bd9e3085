"""Promise 4: what is told is what the plain reckoning makes, day by day, in whatever order letters are handed in."""

import random
import unittest

from dealtongue.agreements import first_wrong
from dealtongue.ahead import may_come
from dealtongue.alike import apart
from dealtongue.books import Book
from dealtongue.causes import chain
from dealtongue.coins import balances, ledger
from dealtongue.disputes import readings
from dealtongue.keeping import fate, sends
from dealtongue.letters import are_letters
from dealtongue.quicker import quick, turnings
from dealtongue.reckoner import reckoned
from dealtongue.texts import read_agreement, show_agreement
from dealtongue.versions import reckoned_by
from tests.makers import made, made_versions
from tests.narrow import Contested, Narrow
from tests.oracle import Oracle, told_days, told_days_by, told_of

DAYS = (0, 1, 2, 5, 9, 14, 22, 31, 43, 59, 60, 75)


class Promise(unittest.TestCase):
    maxDiff = None

    def test_what_is_made_is_right(self):
        for seed in range(300):
            agreement, letters = made(seed)
            self.assertIsNone(first_wrong(agreement))
            self.assertTrue(are_letters(letters))

    def test_as_a_second_reckoner_tells(self):
        seen = {}
        for seed in range(1000, 1150):
            agreement, letters = made(seed)
            told = told_days(agreement, letters, DAYS[-1])
            for day in DAYS:
                self.assertEqual(told_of(reckoned(agreement, letters, day)), told[day], (seed, day))
                self.assertEqual(told_of(quick(agreement, letters, day)), told[day], (seed, day))
            for thing in told[-1]["things"]:
                seen[thing[4]] = seen.get(thing[4], 0) + 1
            for name in ("broken", "fees", "put_by", "owed", "had"):
                seen[name] = seen.get(name, 0) + len(told[-1][name])
            seen["ended"] = seen.get("ended", 0) + (told[-1]["ended"] is not None)
        # Of all that may happen enough did.
        for name in ("open", "late", "done", "freed", "broken", "fees", "put_by", "owed", "had", "ended"):
            self.assertGreater(seen[name], 10, name)

    def test_in_whatever_order_letters_are_handed_in(self):
        some = random.Random(7)
        for seed in range(60):
            agreement, letters = made(seed)
            told = told_of(reckoned(agreement, sorted(letters), 60))
            turned = turnings(agreement, sorted(letters), 60)
            for _ in range(3):
                some.shuffle(letters)
                self.assertEqual(told_of(reckoned(agreement, letters, 60)), told)
                self.assertEqual(told_of(quick(agreement, letters, 60)), told)
                self.assertEqual(turnings(agreement, letters, 60), turned)
            self.assertEqual(told_of(reckoned(agreement, sorted(letters, reverse=True), 60)), told)

    def test_of_an_agreement_that_was_written_and_read(self):
        for seed in range(60):
            agreement, letters = made(seed)
            again = read_agreement(show_agreement(agreement))
            self.assertEqual(reckoned(again, letters, 60), reckoned(agreement, letters, 60))

    def test_letters_behind_the_last_day_change_nothing(self):
        for seed in range(60):
            agreement, letters = made(seed)
            for day in (0, 20, 59):
                ahead = [letter for letter in letters if letter[0] <= day]
                self.assertEqual(reckoned(agreement, letters, day), reckoned(agreement, ahead, day))
                self.assertEqual(quick(agreement, letters, day), quick(agreement, ahead, day))


class Whole(unittest.TestCase):
    """Over the whole program: however late letters came, whatever was disputed, ruled, withdrawn, amended, undone."""

    maxDiff = None

    def told_in_the_end(self, seed):
        """A book of a seed, and the letters and versions that stand in the end."""
        some = random.Random(seed)
        versions, letters = made_versions(seed, 40)
        book = Book(some.choice(versions)[1], today=40)
        deeds = [("post", letter) for letter in letters] + [("amend", *version) for version in versions]
        some.shuffle(deeds)
        standing = {}
        for deed in deeds:
            book.do(deed)
            if deed[0] == "post":
                key = deed[1][:2]
                standing[key] = deed[1]
                self.touched(some, book, key, standing)
            if some.random() < 0.3:
                book.do(("day", book.today() + some.randint(1, 3)))
            if some.random() < 0.3:
                # What is taken back was never done.
                book.run([("amend", 3, versions[0][1]), ("day", book.today() + 9)] if some.random() < 0.5 else [])
                book.undo()
        return book, versions, sorted(standing.values())

    def touched(self, some, book, key, standing):
        """Disputes, rules and withdraws a letter, and keeps account of whether it stands."""
        draw = some.random()
        if draw < 0.3:
            stands = some.random() < 0.6
            book.run([("dispute", *key), ("rule", *key, not stands), ("rule", *key, stands)])
            if not stands:
                del standing[key]
        elif draw < 0.4:
            book.do(("withdraw", *key))
            del standing[key]
        elif draw < 0.5:
            book.do(("dispute", *key))
            book.undo()
            self.assertEqual(book.told(40, known=book.today()).day, 40)

    def test_a_book_tells_what_the_texts_and_letters_that_stand_make(self):
        for seed in range(8000, 8030):
            book, versions, letters = self.told_in_the_end(seed)
            told = told_days_by(versions, letters, 60)
            for day in (0, 11, 25, 40, 60):
                self.assertEqual(told_of(book.told(day)), told[day], seed)
                self.assertEqual(book.told(day), reckoned_by(versions, letters, day))
                self.assertEqual(book.readings(day), [((), reckoned_by(versions, letters, day))])
            if len(versions) == 1:
                self.assertEqual(book.told(60), quick(versions[0][1], letters, 60))

    def test_with_open_disputes_each_reading_is_told(self):
        for seed in range(8100, 8115):
            versions, letters = made_versions(seed, 40)
            book = Book(versions[0][1], today=40)
            book.run([("post", letter) for letter in letters] + [("amend", *version) for version in versions])
            open_ones = sorted(letter[:2] for letter in letters[:3])
            book.run([("dispute", *one) for one in open_ones])
            told = book.readings(50)
            self.assertEqual(told, readings(versions, letters, open_ones, 50))
            self.assertEqual(len(told), 2 ** len(open_ones))
            for condition in [word[3] for word in versions[-1][1][2] if word[3] is not None]:
                truths = {state.holds(condition) for _, state in told}
                expected = {(True,): "yes", (False,): "no"}.get(tuple(truths), "open")
                self.assertEqual(book.asked(condition, 50), expected)

    def test_every_coin_is_led_to_debts_or_put_by_none_twice(self):
        moved = 0
        for seed in range(8200, 8240):
            agreement, letters = made(seed)
            state = reckoned(agreement, letters, 60)
            rows = ledger(agreement, letters, 60)
            oracle = Oracle(agreement, letters)
            oracle.days(60)
            paid = sum(row[5] for row in rows if row[1][0] == "letter")
            self.assertEqual(paid, sum(letter[4] for letter in oracle.heard))
            led = sum(row[5] for row in rows if row[4] != ("put by",))
            self.assertEqual(led + sum(state.put_by().values()), paid)
            for duty, number, _, _, _, _, left in state.things():
                to_it = sum(row[5] for row in rows if row[4] == ("thing", duty, number))
                self.assertEqual(to_it + left, oracle.amounts[duty, number])
            self.assertEqual(sum(balances(agreement, letters, 60).values()), 0)
            moved += paid
        self.assertGreater(moved, 1000)

    def test_each_chain_leads_to_a_letter_or_a_day(self):
        for seed in range(8300, 8330):
            agreement, letters = made(seed)
            state = reckoned(agreement, letters, 60)
            asked = [("broken",) + row[:2] for row in state.broken()]
            for thing in state.things():
                asked.append(("brought",) + thing[:2])
                if thing[4] in ("done", "freed"):
                    asked.append((thing[4],) + thing[:2])
            if state.ended is not None:
                asked.append(("ended",))
            for happening in asked:
                last, day, clause = chain(agreement, letters, 60, happening)[-1]
                self.assertIn(last[0], ("day", "counts"))
                self.assertEqual((last[1], clause), (day, None))

    def test_of_all_conduct(self):
        """What comes at first behind a conduct comes behind no other one sooner, nor behind fewer letters."""
        some = random.Random(5)
        for seed in range(8400, 8440):
            agreement, other = Narrow(seed).agreement(), Narrow(seed + 1).agreement()
            condition = Narrow(seed).condition(0)
            if first_wrong((*agreement[:2], agreement[2] + (("zz", "ann", None, condition),), agreement[3])) is None:
                told = may_come(agreement, condition)
                for _ in range(20):
                    letters = any_conduct(some, agreement)
                    for day in (0, 1, 2, 3, 5, 8):
                        if reckoned(agreement, letters, day).holds(condition):
                            by_then = [letter for letter in letters if letter[0] <= day]
                            self.assertLessEqual((told[1], 0), (day, 0))
                            self.assertTrue(told[1] < day or len(told[2]) <= len(by_then))
            if agreement[0] == other[0] and apart(agreement, other) is None:
                for _ in range(20):
                    letters = any_conduct(some, agreement)
                    self.assertEqual(reckoned(agreement, letters, 9).ended is None,
                                     reckoned(other, letters, 9).ended is None)

    def test_a_party_keeps_its_duties_or_the_others_break_one(self):
        some = random.Random(6)
        kept = 0
        for seed in range(8500, 8540):
            agreement = Contested(seed).agreement()
            for party in agreement[0]:
                told = fate(agreement, party)
                letters = []
                for day in range(9 if told is None else told + 1):
                    for turn, mover in enumerate(agreement[0], start=1):
                        # The one that can have its way plays as it is told, all others as they like.
                        if (mover == party) == (told is None):
                            word = sends(agreement, party, mover, letters, day)
                        else:
                            word = some.choice([None] + [row[0] for row in agreement[2] if row[1] == mover])
                        if word is not None:
                            letters.append((day, turn, mover, word, 0))
                mine = {clause[1] for clause in agreement[3] if clause[0] == "duty" and clause[2] == party}
                broken = [row for row in reckoned(agreement, letters, 8 if told is None else told).broken()
                          if row[0] in mine]
                self.assertEqual(broken == [], told is None, (seed, party))
                kept += told is None
        self.assertGreater(kept, 20)


def any_conduct(some, agreement):
    """Makes letters of an agreement's words, some six of them on the first nine days."""
    letters = {}
    for _ in range(some.randint(0, 9)):
        word = some.choice(agreement[2])
        when = (some.randint(0, 8), some.randint(1, 9))
        letters[when] = (*when, word[1], word[0], 0)
    return list(letters.values())
