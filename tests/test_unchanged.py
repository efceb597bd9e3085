"""What is handed in is as it was after each call."""

import copy
import unittest

from dealtongue.agreements import first_wrong, is_agreement
from dealtongue.ahead import may_come
from dealtongue.alike import apart
from dealtongue.books import Book
from dealtongue.causes import chain, idle_why, is_chain, weighed
from dealtongue.coins import balances, ledger
from dealtongue.days import after, is_rest, is_span, is_work, work_between
from dealtongue.disputes import asked, readings
from dealtongue.errors import DealError, NoDay
from dealtongue.keeping import fate, sends
from dealtongue.letters import are_letters, is_letter
from dealtongue.quicker import quick, quick_on, turnings
from dealtongue.reckoner import reckoned
from dealtongue.texts import read_agreement, read_condition, show_agreement, show_condition
from dealtongue.versions import reached_by, reckoned_by
from tests.looking import NARROW
from tests.makers import made, made_versions
from tests.narrow import Narrow
from tests.oracle import told_of
from tests.samples import CLAUSES, PARTIES, REST, WORDS, agreement, odd_things


class Unchanged(unittest.TestCase):
    def calls(self, function, *things):
        """Calls the function, refused or not, and looks at what it was handed."""
        before = copy.deepcopy(things)
        try:
            function(*things)
        except (DealError, KeyError, NoDay):
            pass
        self.assertEqual(repr(things), repr(before))

    def test_right_things(self):
        self.calls(is_rest, REST)
        self.calls(is_span, ("work", 3))
        self.calls(is_work, 9, REST)
        self.calls(after, 9, ("work", 9), REST)
        self.calls(work_between, 9, 90, REST)
        self.calls(is_agreement, agreement())
        self.calls(first_wrong, agreement())
        self.calls(show_agreement, agreement())
        self.calls(show_condition, ("not", ("ended",)))
        self.calls(is_letter, (1, 1, "ann", "ask", 0))

    def test_lists_of_letters(self):
        for seed in range(20):
            whole, letters = made(seed)
            self.calls(are_letters, letters)
            for function in (reckoned, quick, turnings):
                self.calls(function, whole, letters, 40)
                self.calls(function, whole, letters, 3001)
                self.calls(function, whole, letters + letters[:1], 40)
            state = quick(whole, letters, 9)
            told = told_of(state)
            self.calls(lambda *things: quick_on(things[0], things[1], state, 50), whole, letters)
            self.calls(state.holds, ("ended",))
            self.assertEqual(told_of(state), told)

    def test_coins_and_causes(self):
        for seed in range(20):
            whole, letters = made(seed)
            condition = ("any", ("ended",), ("had", whole[2][0][0]))
            for function in (ledger, balances):
                self.calls(function, whole, letters, 40)
            for happening in (("day", 3), ("brought", "da", 1), ("ended",), ["day"], {}):
                self.calls(chain, whole, letters, 40, happening)
                self.calls(is_chain, whole, letters, 40, [(happening, 3, None)])
            self.calls(is_chain, whole, letters, 40, chain(whole, letters, 40, ("day", 3)))
            self.calls(weighed, whole, letters, 40, condition)
            for letter in letters[:9]:
                self.calls(idle_why, whole, letters, 40, letter[0], letter[1])

    def test_versions_and_disputes(self):
        for seed in range(20):
            versions, letters = made_versions(seed)
            open_ones = [letter[:2] for letter in letters[:3]]
            self.calls(reckoned_by, versions, letters, 50)
            for place in range(1, len(versions)):
                self.calls(lambda *things: reached_by(*things[:3], place=things[3]), versions, letters, 50, place)
            self.calls(readings, versions, letters, open_ones, 50)
            self.calls(asked, versions, letters, open_ones, 50, ("ended",))
            self.calls(asked, versions, letters, open_ones + [[]], 50, [])

    def test_books(self):
        for seed in range(10):
            versions, letters = made_versions(seed)
            book = Book(versions[0][1], today=60)
            for deed in [("post", letter) for letter in letters] + [("amend", *version) for version in versions]:
                self.calls(book.do, deed)
            self.calls(book.run, [("dispute", *letter[:2]) for letter in letters[:2]])
            self.calls(book.run, [("day", 61), ["day", 62]])
            self.calls(book.do, ["day", [61]])
            self.calls(lambda condition: book.asked(condition, 40), ("ended",))
            self.calls(lambda condition: book.asked(condition, 40), ["ended"])

    def test_all_conduct(self):
        for seed in range(20):
            maker = Narrow(seed)
            one, condition, other = maker.agreement(), maker.condition(0), maker.agreement()
            letters = [(0, 1, "ann", "wa", 0), (1, 2, "bob", "wb", 0)]
            self.calls(may_come, one, condition)
            self.calls(apart, one, other)
            self.calls(lambda whole, said: fate(whole, "ann", letters=said, day=3), one, letters)
            self.calls(lambda whole, said: fate(whole, "ann", letters=said, day=1), one, letters)
            self.calls(lambda whole, said: sends(whole, "ann", "bob", said, 3), one, letters)

    def test_odd_things(self):
        for thing in odd_things():
            for function in (is_rest, is_span, is_agreement, first_wrong, is_letter, are_letters, show_agreement,
                             show_condition, read_agreement, read_condition):
                self.calls(function, thing)
            for function in (reckoned, quick, turnings):
                self.calls(function, thing, thing, thing)
                self.calls(function, agreement(), thing, 9)
                self.calls(function, agreement(), [thing], 9)
                self.calls(function, agreement(), [], thing)
            self.calls(reckoned(agreement(), [], 9).holds, thing)
            self.calls(is_work, thing, thing)
            self.calls(is_work, 9, thing)
            self.calls(after, 9, thing, REST)
            self.calls(after, 9, ("days", 1), thing)
            self.calls(work_between, thing, 9, REST)
            self.calls(work_between, 9, 99, thing)
            for function in (ledger, balances):
                self.calls(function, agreement(), thing, thing)
            for function in (chain, is_chain, weighed):
                self.calls(function, agreement(), [], 9, thing)
            self.calls(idle_why, agreement(), [], 9, thing, thing)
            self.calls(reckoned_by, thing, [], 9)
            self.calls(reckoned_by, [(0, agreement()), thing], thing, thing)
            self.calls(readings, [(0, agreement())], [], thing, thing)
            self.calls(asked, [(0, agreement())], [], [], 9, thing)
            self.calls(Book, thing)
            for deed in (thing, ("post", thing), ("day", thing), ("dispute", thing, thing), ("amend", 3, thing)):
                self.calls(Book(agreement()).do, deed)
                self.calls(Book(agreement()).run, [deed])
            self.calls(Book(agreement()).told, thing)
            self.calls(may_come, NARROW, thing)
            self.calls(apart, NARROW, thing)
            self.calls(fate, NARROW, thing)
            self.calls(lambda said: fate(NARROW, "ann", letters=said), thing)
            self.calls(sends, NARROW, "ann", "bob", thing, thing)

    def test_lists_and_dicts_within(self):
        self.calls(is_rest, ([6, 0], [41, 0]))
        self.calls(is_rest, (REST[0], [41, 0, 0]))
        self.calls(is_span, ["days", [1]])
        self.calls(after, 9, ("days", 1), ([6, 0], {0: 41}))
        for whole in (
            list(agreement()),
            agreement(parties=list(PARTIES)),
            agreement(rest=list(REST)),
            agreement(words=list(WORDS)),
            agreement(words=tuple(list(word) for word in WORDS)),
            agreement(clauses=list(CLAUSES)),
            agreement(clauses=tuple(list(clause) for clause in CLAUSES)),
            agreement(clauses=tuple(clause[:-1] + ([True, {}],) for clause in CLAUSES)),
        ):
            self.calls(is_agreement, whole)
            self.calls(first_wrong, whole)
