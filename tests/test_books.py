"""Promises 20 to 22: the book."""

import random
import unittest

from dealtongue.agreements import first_wrong
from dealtongue.books import Book
from dealtongue.disputes import readings
from dealtongue.errors import (
    NoAgreement, NoCondition, NoDay, NoDeed, NoLetter, NoLetterThere, NothingDone, NoVersions, Open, TooWide, Twice,
    Withdrawn,
)
from dealtongue.reckoner import State, reckoned
from dealtongue.versions import reckoned_by
from tests.makers import made_versions
from tests.oracle import told_days_by, told_of
from tests.reckons import deal, said
from tests.samples import BIG, NO_DAYS, odd_things

GIVE = "duty give : ann must send ask to bob within 2 days after day 3"
ONE = deal(GIVE)
OVER = deal("end over : after day 4")
MORE = deal("duty more : bob must send note to ann within 2 days after day 3")
ASK, NOTE, CASH = said("4 ask", "4.2 note", "5 cash 4")


def book(*deeds, agreement=ONE, today=9):
    found = Book(agreement, today=today)
    for deed in deeds:
        found.do(deed)
    return found


def posted(*letters):
    return [("post", letter) for letter in letters]


class Books(unittest.TestCase):
    maxDiff = None

    def refused(self, kind, found, deed):
        """A deed is refused, by itself and in a run, and changes nothing."""
        ahead = seen(found)
        for act, what in ((found.do, deed), (found.run, [deed])):
            with self.assertRaises(kind) as caught:
                act(what)
            self.assertIs(type(caught.exception), kind)
            self.assertEqual(seen(found), ahead)
        return caught.exception


def seen(found):
    """All that a book tells by itself."""
    days = []
    for known in range(found.today() + 1):
        try:
            days.append(told_of(found.told(9, known=known)))
        except Open:
            days.append([(choice, told_of(state)) for choice, state in found.readings(9, known=known)])
    return (found.today(), found.letters(), found.deeds(), days)


class Deeds(Books):
    def test_a_new_book(self):
        found = Book(ONE)
        self.assertEqual((found.today(), found.letters(), found.deeds()), (0, [], []))
        self.assertEqual(Book(ONE, today=7).today(), 7)
        self.assertEqual(found.told(9), reckoned(ONE, [], 9))
        for thing in odd_things():
            for today in (0, None):
                with self.assertRaises(NoAgreement) as caught:
                    Book(thing, today=today)
                self.assertEqual(caught.exception.place, first_wrong(thing))
        for thing in NO_DAYS:
            with self.assertRaises(NoDay):
                Book(ONE, today=thing)

    def test_day(self):
        found = Book(ONE, today=3)
        found.do(("day", 4))
        found.do(("day", 3000))
        self.assertEqual(found.today(), 3000)
        found = Book(ONE, today=3)
        for day in [3, 2, 0] + NO_DAYS:
            self.refused(NoDay, found, ("day", day))
        self.assertEqual(found.today(), 3)

    def test_post(self):
        found = book(*posted(CASH, ASK))
        self.assertEqual(found.letters(), [ASK, CASH])
        for thing in [list(ASK), ASK[:4], (True,) + ASK[1:], ASK[:4] + (-1,), (4, 100) + ASK[2:]] + odd_things():
            self.refused(NoLetter, found, ("post", thing))
        self.refused(NoLetter, book(today=3), ("post", ASK))
        self.refused(NoLetter, book(today=4), ("post", CASH))
        for today in (5, 6, 3000):
            self.assertEqual(book(("post", CASH), today=today).letters(), [CASH])

    def test_twice(self):
        found = book(*posted(CASH, ASK))
        for letter in (ASK, (4, 1, "bob", "note", 0), (5, 1, "eve", "nothing", 7)):
            error = self.refused(Twice, found, ("post", letter))
            self.assertEqual((error.said, error.turn), letter[:2])
        found.do(("withdraw", 4, 1))
        self.refused(Twice, found, ("post", ASK))
        found.undo()
        found.undo()
        found.do(("post", (4, 1, "bob", "note", 0)))

    def test_sixty_letters(self):
        letters = [(day, turn, "ann", "ask", 0) for day in range(6) for turn in range(1, 11)]
        found = book(*posted(*letters))
        self.assertEqual(len(found.letters()), 60)
        self.refused(NoLetter, found, ("post", (7, 1, "ann", "ask", 0)))
        # It is refused as none ahead of being there twice, and withdrawn ones are posted ones.
        self.refused(NoLetter, found, ("post", letters[0]))
        found.do(("withdraw", 0, 1))
        self.refused(NoLetter, found, ("post", (7, 1, "ann", "ask", 0)))
        found.undo()
        found.undo()
        found.do(("post", (7, 1, "ann", "ask", 0)))
        self.assertEqual(found.told(9).had(), ["ask"])

    def test_dispute_withdraw_and_rule(self):
        found = book(*posted(ASK))
        for deed in (("dispute", 4, 1), ("rule", 4, 1, False), ("dispute", 4, 1), ("rule", 4, 1, True),
                     ("rule", 4, 1, True), ("dispute", 4, 1), ("dispute", 4, 1), ("withdraw", 4, 1)):
            found.do(deed)
        for said_on, turn in ((4, 2), (3, 1), (True, 1), (4, True), (BIG, 1), (-1, 1), ("4", 1), (None, 1), ([], {})):
            for deed in (("dispute", said_on, turn), ("withdraw", said_on, turn), ("rule", said_on, turn, True)):
                error = self.refused(NoLetterThere, found, deed)
                self.assertEqual((error.said, error.turn), (said_on, turn))
        for deed in (("dispute", 4, 1), ("withdraw", 4, 1), ("rule", 4, 1, True), ("rule", 4, 1, False)):
            error = self.refused(Withdrawn, found, deed)
            self.assertEqual((error.said, error.turn), (4, 1))
        one = book(*posted((1, 1, "ann", "ask", 0)))
        for said_on, turn in ((True, 1), (1, True)):
            self.refused(NoLetterThere, one, ("dispute", said_on, turn))

    def test_amend(self):
        found = book()
        for day in NO_DAYS:
            self.refused(NoDay, found, ("amend", day, None))
        for thing in odd_things():
            error = self.refused(NoAgreement, found, ("amend", 3, thing))
            self.assertEqual(error.place, first_wrong(thing))
        parties, rest, words, clauses = ONE
        for others in (("bob", "ann", "cat"), ("ann", "bob", "cat", "dan")):
            self.refused(NoVersions, found, ("amend", 3, (others, rest, words, clauses)))
            self.refused(NoDay, found, ("amend", 3001, (others, rest, words, clauses)))

    def test_six_versions_at_most(self):
        found = book(*[("amend", day, OVER) for day in (3000, 5, 2, 8, 1)])
        for day in (3, 2999):
            self.refused(NoVersions, found, ("amend", day, ONE))
        for day in (0, 5, 2, 8, 1, 3000):
            found.do(("amend", day, MORE))
        self.refused(NoVersions, found, ("amend", 3, ONE))
        self.assertEqual(found.told(9), reckoned_by([(day, MORE) for day in (0, 1, 2, 5, 8, 3000)], [], 9))

    def test_no_deed(self):
        found = book(*posted(ASK))
        for thing in [(), ("day",), ("day", 10, 11), ["day", 10], "day", ("days", 10), ("post",), ("post", CASH, NOTE),
                      CASH, ("dispute", 4), ("dispute", 4, 1, True), ("withdraw", 4), ("withdraw", 4, 1, 1),
                      ("rule", 4, 1), ("rule", 4, 1, 1), ("rule", 4, 1, 0), ("rule", 4, 1, None), ("rule", 4, 1, "True"),
                      ("rule", 9, 9, 1), ("rule", 4, 1, True, True), ("amend", 3), ("amend", 3, ONE, ONE), ("undo",),
                      ("told", 3), (["day"], 3), ({}, 3), (None, 3), (("day",), 3), [], [("day", 10)], {"day": 10},
                      (1, 2), ("run", [])] + odd_things():
            self.refused(NoDeed, found, thing)


class Known(Books):
    """As known on an elder day a book tells what it told then."""

    def letters_told(self, found, letters, known=None, day=9):
        self.assertEqual(found.told(day, known=known), reckoned(ONE, letters, day))

    def test_letters_known_late(self):
        found = book(("post", ASK), ("day", 12), ("post", NOTE), ("day", 20), ("post", CASH))
        self.letters_told(found, [ASK, NOTE, CASH])
        for known, letters in ((20, [ASK, NOTE, CASH]), (19, [ASK, NOTE]), (12, [ASK, NOTE]), (11, [ASK]), (9, [ASK]),
                               (8, []), (0, [])):
            self.letters_told(found, letters, known)
        self.letters_told(found, [ASK, NOTE, CASH], None, 3000)
        self.letters_told(found, [ASK], 9, 3000)
        self.letters_told(found, [ASK], 9, 0)

    def test_disputed_ruled_and_disputed_again(self):
        found = book(*posted(ASK, NOTE), ("day", 10), ("dispute", 4, 1), ("day", 11), ("rule", 4, 1, False), ("day", 12),
                     ("rule", 4, 1, True), ("day", 13), ("dispute", 4, 1), ("day", 14), ("rule", 4, 1, False))
        for known, letters in ((9, [ASK, NOTE]), (11, [NOTE]), (12, [ASK, NOTE]), (14, [NOTE])):
            self.letters_told(found, letters, known)
            self.assertEqual(found.readings(9, known=known), [((), reckoned(ONE, letters, 9))])
        for known in (10, 13):
            with self.assertRaises(Open):
                found.told(9, known=known)
            told = found.readings(9, known=known)
            self.assertEqual(told, readings([(0, ONE)], [ASK, NOTE], [(4, 1)], 9))
            self.assertEqual(found.asked(("had", "ask"), 9, known=known), "open")
            self.assertEqual(found.asked(("had", "note"), 9, known=known), "yes")

    def test_all_on_one_day_by_the_order_of_deeds(self):
        for deeds, counts in (
            ([("rule", 4, 1, False)], False), ([("rule", 4, 1, True)], True), ([("dispute", 4, 1)], None),
            ([("dispute", 4, 1), ("rule", 4, 1, True)], True), ([("rule", 4, 1, True), ("dispute", 4, 1)], None),
            ([("rule", 4, 1, False), ("dispute", 4, 1)], None), ([("withdraw", 4, 1)], False),
            ([("rule", 4, 1, True), ("rule", 4, 1, False)], False), ([("rule", 4, 1, False), ("rule", 4, 1, True)], True),
            ([("dispute", 4, 1), ("withdraw", 4, 1)], False), ([("rule", 4, 1, True), ("withdraw", 4, 1)], False),
            ([("dispute", 4, 1), ("rule", 4, 1, False), ("dispute", 4, 1), ("rule", 4, 1, True)], True),
        ):
            found = book(*posted(ASK), *deeds)
            if counts is None:
                with self.assertRaises(Open):
                    found.told(9)
                self.assertEqual(len(found.readings(9)), 2)
            else:
                self.letters_told(found, [ASK] if counts else [])

    def test_withdrawn(self):
        found = book(*posted(ASK, NOTE), ("day", 10), ("dispute", 4, 1), ("day", 11), ("withdraw", 4, 1))
        self.letters_told(found, [NOTE])
        self.letters_told(found, [ASK, NOTE], 9)
        with self.assertRaises(Open):
            found.told(9, known=10)
        self.assertEqual(found.letters(), [ASK, NOTE])

    def test_open_behind_the_last_day_too(self):
        with self.assertRaises(Open):
            book(*posted(CASH), ("dispute", 5, 1)).told(3)

    def test_versions(self):
        found = book(("amend", 5, OVER), ("day", 10), ("amend", 2, MORE), ("day", 11), ("amend", 5, ONE), ("day", 12),
                     ("amend", 0, OVER), ("day", 13), ("amend", 0, MORE), ("amend", 2000, OVER))
        for known, versions in (
            (8, [(0, ONE)]), (9, [(0, ONE), (5, OVER)]), (10, [(0, ONE), (2, MORE), (5, OVER)]),
            (11, [(0, ONE), (2, MORE), (5, ONE)]), (12, [(0, OVER), (2, MORE), (5, ONE)]),
            (13, [(0, MORE), (2, MORE), (5, ONE), (2000, OVER)]), (None, [(0, MORE), (2, MORE), (5, ONE), (2000, OVER)]),
        ):
            for day in (3, 6, 2100):
                self.assertEqual(found.told(day, known=known), reckoned_by(versions, [], day))
                self.assertEqual(found.readings(day, known=known), [((), reckoned_by(versions, [], day))])

    def test_the_day_of_today_handed_in(self):
        found = book(*posted(ASK), ("amend", 4, OVER))
        self.assertEqual(found.told(9, known=9), found.told(9))
        self.assertIsInstance(found.told(9), State)

    def test_asked(self):
        found = book(*posted(ASK, NOTE), ("dispute", 4, 1), ("day", 10), ("amend", 6, MORE))
        for condition, day, known, told in (
            (("had", "ask"), 9, None, "open"), (("had", "ask"), 3, None, "no"), (("had", "note"), 9, None, "yes"),
            (("owes", "give"), 9, 9, "open"), (("broken", "give"), 4, 9, "no"), (("had", "ask"), 9, 8, "no"),
            (("owes", "more"), 9, 10, "no"), (("ended",), 9, 10, "no"),
        ):
            self.assertEqual(found.asked(condition, day, known=known), told)

    def test_refused_in_this_order(self):
        letters = [(day, 1, "ann", "ask", 0) for day in range(1, 7)]
        found = book(*posted(*letters), *[("dispute", day, 1) for day in range(1, 6)])
        for ask in (found.told, found.readings, lambda day, known=None: found.asked(None, day, known=known)):
            for day in NO_DAYS:
                with self.assertRaises(NoDay):
                    ask(day)
                with self.assertRaises(NoDay):
                    ask(day, known=10)
            for known in [10, 3000] + [thing for thing in NO_DAYS if thing is not None]:
                with self.assertRaises(NoDay):
                    ask(9, known=known)
        with self.assertRaises(Open):
            found.told(9)
        for ask in (found.readings, lambda day: found.asked(None, day), lambda day: found.asked(("ended",), day)):
            with self.assertRaises(TooWide):
                ask(9)
        found.do(("rule", 3, 1, True))
        self.assertEqual(len(found.readings(9)), 16)
        for thing in [("owes", "more"), ("had", "nobody"), None] + odd_things():
            with self.assertRaises(NoCondition):
                found.asked(thing, 9)
        self.assertEqual(found.asked(("had", "ask"), 9), "yes")

    def test_as_it_was_told_then(self):
        """Whatever comes behind, what was told as known on a day is told as known on it again."""
        for seed in range(40):
            some = random.Random(seed)
            versions, letters = made_versions(seed, 40)
            found = Book(versions[0][1])
            told = []
            for today in range(1, 41):
                for _ in range(some.randint(0, 3)):
                    do_any(some, found, versions, letters)
                told.append(known_of(found))
                found.do(("day", today))
            for known in range(40):
                self.assertEqual(known_of(found, known), told[known], (seed, known))


def do_any(some, found, versions, letters):
    """Does any deed that can be done."""
    there = [letter[:2] for letter in found.letters()]
    draw = some.random()
    try:
        if draw < 0.6:
            found.do(("post", some.choice(letters)))
        elif draw < 0.7:
            found.do(("amend", *some.choice(versions)))
        elif there:
            kind = some.choice(("dispute", "withdraw", "rule", "rule"))
            found.do((kind, *some.choice(there)) + ((some.random() < 0.5,) if kind == "rule" else ()))
    except (NoLetter, Twice, Withdrawn, IndexError):
        pass


def known_of(found, known=None):
    """What a book tells as known on a day."""
    try:
        return told_of(found.told(40, known=known))
    except Open:
        pass
    try:
        return [(choice, told_of(state)) for choice, state in found.readings(40, known=known)]
    except TooWide:
        return None


class Runs(Books):
    def test_all_of_them(self):
        found = Book(ONE)
        found.run([("day", 9), ("post", ASK), ("amend", 5, OVER), ("day", 10)])
        self.assertEqual((found.today(), found.letters()), (10, [ASK]))
        self.assertEqual(found.deeds(), [[("day", 9), ("post", ASK), ("amend", 5, OVER), ("day", 10)]])
        self.assertEqual(found.told(9), reckoned_by([(0, ONE), (5, OVER)], [ASK], 9))

    def test_each_sees_what_those_ahead_did(self):
        found = Book(ONE)
        with self.assertRaises(NoLetter):
            found.do(("post", ASK))
        found.run([("day", 4), ("post", ASK), ("withdraw", 4, 1)])
        with self.assertRaises(Withdrawn):
            found.run([("dispute", 4, 1)])

    def test_or_none(self):
        deeds = [("day", 10), ("post", ASK), ("dispute", 4, 1), ("amend", 2, OVER), ("day", 11)]
        for kind, wrong in ((NoDay, ("day", 9)), (NoLetter, ("post", None)), (Twice, ("post", NOTE)),
                            (NoLetterThere, ("withdraw", 9, 9)), (NoDeed, None), (NoDeed, ("rule", 4, 2, 1)),
                            (NoAgreement, ("amend", 3, None)), (Withdrawn, ("rule", 5, 1, True))):
            for at in range(len(deeds) + 1):
                found = book(*posted(NOTE, CASH), ("withdraw", 5, 1))
                ahead = seen(found)
                with self.assertRaises(kind):
                    found.run(deeds[:at] + [wrong] + deeds[at:])
                self.assertEqual(seen(found), ahead)
                found.run(deeds)
                self.assertEqual(found.today(), 11)

    def test_refused_as_each_turn_comes(self):
        found = book()
        for deeds, kind in (([("day", 3), None], NoDay), ([None, ("day", 3)], NoDeed),
                            ([("dispute", 1, 1), ("day", 3)], NoLetterThere)):
            with self.assertRaises(kind):
                found.run(deeds)

    def test_no_list(self):
        found = book()
        for thing in [(), (("day", 10),), ("day", 10), {0: ("day", 10)}] + odd_things():
            if thing == []:
                continue
            with self.assertRaises(NoDeed):
                found.run(thing)
        self.assertEqual(found.deeds(), [])

    def test_of_none_stands_as_a_run(self):
        found = book(("day", 10))
        found.run([])
        self.assertEqual(found.deeds(), [("day", 10), []])
        found.undo()
        self.assertEqual((found.deeds(), found.today()), ([("day", 10)], 10))
        found.again()
        self.assertEqual(found.deeds(), [("day", 10), []])
        found.undo()
        found.undo()
        self.assertEqual((found.deeds(), found.today()), ([], 9))

    def test_lists_are_copies(self):
        found = Book(ONE)
        deeds = [("day", 9), ("post", ASK)]
        found.run(deeds)
        deeds.append(("day", 12))
        deeds[0] = None
        self.assertEqual(found.deeds(), [[("day", 9), ("post", ASK)]])
        told = found.deeds()
        told[0].clear()
        told.clear()
        found.letters().clear()
        self.assertEqual(found.deeds(), [[("day", 9), ("post", ASK)]])
        self.assertEqual(found.letters(), [ASK])
        found.undo()
        found.again()
        self.assertEqual(found.deeds(), [[("day", 9), ("post", ASK)]])


class Undone(Books):
    def test_to_the_beginning_and_back(self):
        deeds = [("post", ASK), [("day", 10), ("dispute", 4, 1)], ("amend", 5, OVER), [], ("rule", 4, 1, False),
                 ("day", 12), ("withdraw", 4, 1), [("post", NOTE)]]
        found = book()
        told = [seen(found)]
        for deed in deeds:
            found.run(deed) if isinstance(deed, list) else found.do(deed)
            told.append(seen(found))
        self.assertEqual(found.deeds(), deeds)
        for _ in range(2):
            for at in range(len(deeds) - 1, -1, -1):
                found.undo()
                self.assertEqual(seen(found), told[at])
            with self.assertRaises(NothingDone):
                found.undo()
            self.assertEqual(seen(found), told[0])
            for at in range(1, len(told)):
                found.again()
                self.assertEqual(seen(found), told[at])
            with self.assertRaises(NothingDone):
                found.again()
            self.assertEqual(seen(found), told[-1])

    def test_nothing_done(self):
        found = book()
        with self.assertRaises(NothingDone):
            found.undo()
        with self.assertRaises(NothingDone):
            found.again()
        found.do(("day", 10))
        with self.assertRaises(NothingDone):
            found.again()

    def test_an_again_is_lost_by_a_new_deed(self):
        for new in (("day", 11), [("day", 11)], []):
            found = book(("day", 10), ("post", ASK))
            found.undo()
            found.undo()
            found.run(new) if isinstance(new, list) else found.do(new)
            with self.assertRaises(NothingDone):
                found.again()
            self.assertEqual(found.deeds(), [new])

    def test_an_again_is_no_new_deed(self):
        found = book(("day", 10), ("day", 11), ("day", 12))
        for _ in range(3):
            found.undo()
        found.again()
        found.again()
        self.assertEqual(found.today(), 11)
        found.undo()
        found.again()
        found.again()
        self.assertEqual(found.today(), 12)

    def test_what_is_refused_takes_no_again_away(self):
        found = book(("day", 10))
        found.undo()
        for act, deed in ((found.do, ("day", 3)), (found.do, None), (found.run, [("day", 11), None]), (found.run, None)):
            with self.assertRaises((NoDay, NoDeed)):
                act(deed)
        found.again()
        self.assertEqual(found.today(), 10)

    def test_days_are_taken_back_too(self):
        found = book(("day", 20), ("post", ASK))
        found.undo()
        found.undo()
        self.assertEqual(found.today(), 9)
        with self.assertRaises(NoDay):
            found.told(9, known=10)
        found.do(("post", ASK))
        self.assertEqual(found.told(9, known=9).had(), ["ask"])


class Changed(Books):
    def test_by_hand(self):
        late = deal("end over : after day 9")
        found = book(("day", 12), ("post", ASK), ("day", 13), ("amend", 8, late), ("day", 14), ("amend", 8, ONE))
        self.assertEqual(found.changed(20, known=14), [])
        self.assertEqual(found.changed(20, known=12), [])
        self.assertEqual(found.changed(20, known=11), list(range(4, 21)))
        self.assertEqual(found.changed(4, known=0), [4])
        self.assertEqual(found.changed(3, known=0), [])
        found.undo()
        self.assertEqual(found.changed(11, known=12), [9, 10, 11])

    def test_days_alone_that_tell_something_else(self):
        parties, rest, words, clauses = OVER
        other = (parties, rest, words + (("cry", "cat", None, ("before", 7)),), clauses)
        found = book(("amend", 2, other), agreement=OVER)
        self.assertEqual(found.changed(3000, known=8), [2, 3, 4, 5, 6])
        found.do(("amend", 0, other))
        self.assertEqual(found.changed(3000, known=8), [0, 1, 2, 3, 4, 5, 6])

    def test_refused(self):
        found = book(*posted(ASK), ("day", 10), ("dispute", 4, 1), ("day", 11), ("rule", 4, 1, True))
        for day in NO_DAYS:
            for known in (9, None, 12):
                with self.assertRaises(NoDay):
                    found.changed(day, known=known)
        for known in [12] + NO_DAYS:
            with self.assertRaises(NoDay):
                found.changed(9, known=known)
        with self.assertRaises(NoDay):
            found.changed(9, known=None)
        with self.assertRaises(TypeError):
            found.changed(9)
        with self.assertRaises(Open):
            found.changed(9, known=10)
        self.assertEqual(found.changed(9, known=9), [])
        found.undo()
        for known in (9, 8, 11):
            with self.assertRaises(Open):
                found.changed(9, known=known)

    def test_made_ones(self):
        for seed in range(3000, 3025):
            versions, letters = made_versions(seed, 40)
            found = Book(versions[0][1], today=40)
            for letter in letters[:10]:
                found.do(("post", letter))
            found.do(("day", 41))
            for letter in letters[10:]:
                found.do(("post", letter))
            for version in versions[1:]:
                found.do(("amend", *version))
            elder = told_days_by(versions[:1], letters[:10], 60)
            newer = told_days_by(versions, letters, 60)
            days = [day for day in range(61) if elder[day] != newer[day]]
            self.assertEqual(found.changed(60, known=40), days)
            self.assertEqual(found.changed(60, known=41), [])


class Copies(Books):
    def test_books_do_not_touch_one_another(self):
        one, other = book(), book()
        one.do(("post", ASK))
        self.assertEqual((other.letters(), other.deeds()), ([], []))

    def test_what_is_told_is_the_askers_own(self):
        found = book(*posted(ASK), ("day", 10), ("post", NOTE))
        found.told(9).things().clear()
        found.readings(9).clear()
        found.changed(9, known=9).clear()
        self.assertEqual(len(found.told(9).things()), 1)
        self.assertEqual(len(found.readings(9)), 1)
        self.assertEqual(found.changed(9, known=9), [4, 5, 6, 7, 8, 9])

    def test_a_state_stays_as_it_was_told(self):
        found = book(*posted(ASK))
        state = found.told(9)
        told = told_of(state)
        found.do(("amend", 0, OVER))
        found.do(("withdraw", 4, 1))
        self.assertEqual(told_of(state), told)


class Whole(Books):
    def test_letters_posted_in_any_order_on_any_days(self):
        for seed in range(4000, 4030):
            some = random.Random(seed)
            versions, letters = made_versions(seed, 40)
            deeds = posted(*letters) + [("amend", *version) for version in versions]
            some.shuffle(deeds)
            found = Book(versions[-1][1], today=40)
            for deed in deeds:
                found.do(deed)
                if some.random() < 0.3:
                    found.do(("day", found.today() + 1))
                if some.random() < 0.3:
                    found.undo()
                    found.again()
            for day in (0, 20, 55):
                self.assertEqual(told_of(found.told(day)), told_days_by(versions, letters, day)[-1])
