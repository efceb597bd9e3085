"""What is handed in is as it was after each call."""

import copy
import unittest

from dealtongue.agreements import first_wrong, is_agreement
from dealtongue.days import after, is_rest, is_span, is_work, work_between
from dealtongue.errors import DealError, NoDay
from dealtongue.letters import are_letters, is_letter
from dealtongue.quicker import quick, quick_on, turnings
from dealtongue.reckoner import reckoned
from dealtongue.texts import read_agreement, read_condition, show_agreement, show_condition
from tests.makers import made
from tests.oracle import told_of
from tests.samples import CLAUSES, PARTIES, REST, WORDS, agreement, odd_things


class Unchanged(unittest.TestCase):
    def calls(self, function, *things):
        """Calls the function, refused or not, and looks at what it was handed."""
        before = copy.deepcopy(things)
        try:
            function(*things)
        except (DealError, NoDay):
            pass
        self.assertEqual(repr(things), repr(before))

    def test_right_things(self):
        self.calls(is_rest, REST)
        self.calls(is_span, ("work", 3))
        self.calls(is_work, 9, REST)
        self.calls(after, 9, ("work", 9), REST)
        self.calls(work_between, 9, 90, REST)
        self.calls(is_agreement, agreement())
        self.calls(first_wrong, agreement())
        self.calls(show_agreement, agreement())
        self.calls(show_condition, ("not", ("ended",)))
        self.calls(is_letter, (1, 1, "ann", "ask", 0))

    def test_lists_of_letters(self):
        for seed in range(20):
            whole, letters = made(seed)
            self.calls(are_letters, letters)
            for function in (reckoned, quick, turnings):
                self.calls(function, whole, letters, 40)
                self.calls(function, whole, letters, 3001)
                self.calls(function, whole, letters + letters[:1], 40)
            state = quick(whole, letters, 9)
            told = told_of(state)
            self.calls(lambda *things: quick_on(things[0], things[1], state, 50), whole, letters)
            self.calls(state.holds, ("ended",))
            self.assertEqual(told_of(state), told)

    def test_odd_things(self):
        for thing in odd_things():
            for function in (is_rest, is_span, is_agreement, first_wrong, is_letter, are_letters, show_agreement,
                             show_condition, read_agreement, read_condition):
                self.calls(function, thing)
            for function in (reckoned, quick, turnings):
                self.calls(function, thing, thing, thing)
                self.calls(function, agreement(), thing, 9)
                self.calls(function, agreement(), [thing], 9)
                self.calls(function, agreement(), [], thing)
            self.calls(reckoned(agreement(), [], 9).holds, thing)
            self.calls(is_work, thing, thing)
            self.calls(is_work, 9, thing)
            self.calls(after, 9, thing, REST)
            self.calls(after, 9, ("days", 1), thing)
            self.calls(work_between, thing, 9, REST)
            self.calls(work_between, 9, 99, thing)

    def test_lists_and_dicts_within(self):
        self.calls(is_rest, ([6, 0], [41, 0]))
        self.calls(is_rest, (REST[0], [41, 0, 0]))
        self.calls(is_span, ["days", [1]])
        self.calls(after, 9, ("days", 1), ([6, 0], {0: 41}))
        for whole in (
            list(agreement()),
            agreement(parties=list(PARTIES)),
            agreement(rest=list(REST)),
            agreement(words=list(WORDS)),
            agreement(words=tuple(list(word) for word in WORDS)),
            agreement(clauses=list(CLAUSES)),
            agreement(clauses=tuple(list(clause) for clause in CLAUSES)),
            agreement(clauses=tuple(clause[:-1] + ([True, {}],) for clause in CLAUSES)),
        ):
            self.calls(is_agreement, whole)
            self.calls(first_wrong, whole)
