"""What the tests of the reckoners share: agreements told by rows, and both reckoners asked at once."""

import unittest
from unittest import mock

from dealtongue.agreements import first_wrong
from dealtongue.errors import NoAgreement, NoDay, NoLetters
from dealtongue.phases import run_day
from dealtongue.quicker import quick
from dealtongue.reckoner import reckoned
from dealtongue.texts import read_agreement
from tests.oracle import told_of
from tests.samples import NO_DAYS, odd_things

HEAD = (
    "parties ann bob cat",
    "word ask by ann",
    "word note by bob",
    "word cash by ann to bob",
    "word back by bob to ann",
)


def deal(*rows):
    """Tells the agreement of these rows behind those of the head."""
    return read_agreement("\n".join(HEAD + rows))


def rested(rest, *rows):
    """Tells the agreement of these rows and a rest."""
    parties, _, words, clauses = deal(*rows)
    return (parties, rest, words, clauses)


def said(*told):
    """Makes letters of texts such as "3.1 ask" or "3.1 cash 9", each by its word's sender in the head."""
    senders = {"ask": "ann", "note": "bob", "cash": "ann", "back": "bob"}
    found = []
    for text in told:
        when, word, *coins = text.split(" ")
        day, _, turn = when.partition(".")
        found.append((int(day), int(turn or 1), senders[word], word, int(coins[0]) if coins else 0))
    return found


def days_gone_through(function, agreement, letters, last):
    """Lists the days all of whose phases a reckoner runs; tells them and the State."""
    found = []

    def run(whole, standing, day, letters_then):
        found.append(day)
        run_day(whole, standing, day, letters_then)

    with mock.patch("dealtongue.courses.run_day", run):
        state = function(agreement, letters, last)
    return found, state


class Refuses(unittest.TestCase):
    """Asks of a function of an agreement, letters and a last day in which order it refuses what is none."""

    def refuses_in_order(self, function, whole):
        for thing in odd_things():
            for letters, day in (([], 9), ((), None), ([], -1)):
                with self.assertRaises(NoAgreement) as caught:
                    function(thing, letters, day)
                self.assertEqual(caught.exception.place, first_wrong(thing))
        wrong = [thing for thing in odd_things() if thing != []]
        for thing in wrong + [(), tuple(said("3 ask")), said("3 ask", "3 note")]:
            for day in (9, None, -1, 3001):
                with self.assertRaises(NoLetters):
                    function(whole, thing, day)
        for day in NO_DAYS:
            for letters in ([], said("3 ask")):
                with self.assertRaises(NoDay):
                    function(whole, letters, day)


class Reckons(unittest.TestCase):
    """Asks the plain and the quick reckoner, of letters in their order and in another one."""

    maxDiff = None

    def state(self, agreement, letters, day):
        state = reckoned(agreement, letters, day)
        told = told_of(state)
        self.assertEqual(told_of(quick(agreement, letters, day)), told)
        self.assertEqual(told_of(reckoned(agreement, letters[::-1], day)), told)
        self.assertEqual(told_of(quick(agreement, letters[::-1], day)), told)
        return state

    def things(self, agreement, letters, day, *things):
        self.assertEqual(self.state(agreement, letters, day).things(), list(things))

    def had(self, agreement, letters, day, *words):
        self.assertEqual(self.state(agreement, letters, day).had(), list(words))
