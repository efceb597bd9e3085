"""What is handed in is as it was after each call."""

import copy
import unittest

from dealtongue.agreements import first_wrong, is_agreement
from dealtongue.days import after, is_rest, is_span, is_work, work_between
from dealtongue.errors import NoDay, NoRest, NoSpan
from tests.samples import CLAUSES, PARTIES, REST, WORDS, agreement, odd_things


class Unchanged(unittest.TestCase):
    def calls(self, function, *things):
        """Calls the function, refused or not, and looks at what it was handed."""
        before = copy.deepcopy(things)
        try:
            function(*things)
        except (NoDay, NoRest, NoSpan):
            pass
        self.assertEqual(repr(things), repr(before))

    def test_right_things(self):
        self.calls(is_rest, REST)
        self.calls(is_span, ("work", 3))
        self.calls(is_work, 9, REST)
        self.calls(after, 9, ("work", 9), REST)
        self.calls(work_between, 9, 90, REST)
        self.calls(is_agreement, agreement())
        self.calls(first_wrong, agreement())

    def test_odd_things(self):
        for thing in odd_things():
            for function in (is_rest, is_span, is_agreement, first_wrong):
                self.calls(function, thing)
            self.calls(is_work, thing, thing)
            self.calls(is_work, 9, thing)
            self.calls(after, 9, thing, REST)
            self.calls(after, 9, ("days", 1), thing)
            self.calls(work_between, thing, 9, REST)
            self.calls(work_between, 9, 99, thing)

    def test_lists_and_dicts_within(self):
        self.calls(is_rest, ([6, 0], [41, 0]))
        self.calls(is_rest, (REST[0], [41, 0, 0]))
        self.calls(is_span, ["days", [1]])
        self.calls(after, 9, ("days", 1), ([6, 0], {0: 41}))
        for whole in (
            list(agreement()),
            agreement(parties=list(PARTIES)),
            agreement(rest=list(REST)),
            agreement(words=list(WORDS)),
            agreement(words=tuple(list(word) for word in WORDS)),
            agreement(clauses=list(CLAUSES)),
            agreement(clauses=tuple(list(clause) for clause in CLAUSES)),
            agreement(clauses=tuple(clause[:-1] + ([True, {}],) for clause in CLAUSES)),
        ):
            self.calls(is_agreement, whole)
            self.calls(first_wrong, whole)
