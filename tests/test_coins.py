"""Promise 15: where coins went, and what each party was paid less what it paid."""

import unittest

from dealtongue.coins import balances, ledger
from dealtongue.reckoner import reckoned
from tests.makers import made
from tests.oracle import Oracle
from tests.reckons import Refuses, deal, said

PUT_BY = ("put by",)
PAY = "duty settle : ann must pay 9 coins to bob within 2 days after "
SLOW = "fee slow : 2 at most 5 for settle"


def letter(said_on, turn=1):
    return ("letter", said_on, turn)


def thing(name, number=1):
    return ("thing", name, number)


class Ledger(unittest.TestCase):
    maxDiff = None

    def rows(self, agreement, letters, day, *rows):
        """Each row without the two parties, where they are ann and bob."""
        told = [row if row[2:4] != ("ann", "bob") else row[:2] + row[4:] for row in ledger(agreement, letters, day)]
        self.assertEqual(told, list(rows))

    def test_to_one_debt(self):
        whole = deal(PAY + "day 3")
        self.rows(whole, [], 9)
        self.rows(whole, said("4 cash 9"), 9, (4, letter(4), thing("settle"), 9))
        self.rows(whole, said("4 cash 4", "4.2 cash 5"), 9, (4, letter(4), thing("settle"), 4),
                  (4, letter(4, 2), thing("settle"), 5))
        self.rows(whole, said("4 cash 9"), 3)

    def test_what_is_left_is_put_by(self):
        whole = deal(PAY + "day 3")
        self.rows(whole, said("4 cash 10"), 9, (4, letter(4), thing("settle"), 9), (4, letter(4), PUT_BY, 1))
        self.rows(whole, said("4 back 10"), 9, (4, letter(4), "bob", "ann", PUT_BY, 10))
        self.rows(whole, said("1 cash 1"), 2, (1, letter(1), PUT_BY, 1))

    def test_to_several_debts(self):
        whole = deal(PAY + "every 1 from 3", "duty other : ann must pay 1 coins to bob within 1 days after day 3", SLOW)
        self.rows(whole, said("4 cash 99"), 4, (4, letter(4), thing("other"), 1), (4, letter(4), thing("settle"), 9),
                  (4, letter(4), thing("settle", 2), 9), (4, letter(4), PUT_BY, 80))
        self.rows(whole, said("4 cash 12"), 4, (4, letter(4), thing("other"), 1), (4, letter(4), thing("settle"), 9),
                  (4, letter(4), thing("settle", 2), 2))

    def test_to_fees(self):
        whole = deal(PAY + "day 3", SLOW)
        self.rows(whole, said("8 cash 10"), 9, (8, letter(8), thing("settle"), 9), (8, letter(8), ("fee", "slow", 1), 1))
        self.rows(deal(SLOW, PAY + "day 3"), said("8 cash 10"), 8, (8, letter(8), ("fee", "slow", 1), 4),
                  (8, letter(8), thing("settle"), 6))
        self.rows(whole, said("8 cash 10", "20 cash 9"), 20, (8, letter(8), thing("settle"), 9),
                  (8, letter(8), ("fee", "slow", 1), 1), (20, letter(20), ("fee", "slow", 1), 3),
                  (20, letter(20), PUT_BY, 6))

    def test_put_by_that_goes_to_debts_in_an_evening(self):
        whole = deal(PAY + "day 3")
        self.rows(whole, said("1 cash 12"), 2, (1, letter(1), PUT_BY, 12))
        self.rows(whole, said("1 cash 12"), 9, (1, letter(1), PUT_BY, 12), (3, PUT_BY, thing("settle"), 9))
        self.rows(whole, said("1 cash 4", "2 cash 2"), 9, (1, letter(1), PUT_BY, 4), (2, letter(2), PUT_BY, 2),
                  (3, PUT_BY, thing("settle"), 6))

    def test_put_by_that_goes_to_fees(self):
        whole = deal("duty give : ann must send ask to bob within 2 days after day 3", "fee slow : 2 at most 5 for give")
        self.rows(whole, said("1 cash 4"), 20, (1, letter(1), PUT_BY, 4), (7, PUT_BY, ("fee", "slow", 1), 2),
                  (8, PUT_BY, ("fee", "slow", 1), 2))

    def test_several_pairs_in_one_evening_in_the_order_of_parties(self):
        rows = ["duty one : bob must pay 5 coins to ann within 2 days after day 3",
                "duty two : ann must pay 5 coins to bob within 2 days after day 3"]
        for whole in (deal(*rows), deal(*rows[::-1])):
            self.rows(whole, said("1 back 5", "2 cash 7"), 9, (1, letter(1), "bob", "ann", PUT_BY, 5),
                      (2, letter(2), PUT_BY, 7), (3, PUT_BY, thing("two"), 5),
                      (3, PUT_BY, "bob", "ann", thing("one"), 5))
        parties, rest, words, clauses = deal(*rows)
        self.rows((parties[::-1], rest, words, clauses), said("1 back 5", "2 cash 7"), 9,
                  (1, letter(1), "bob", "ann", PUT_BY, 5), (2, letter(2), PUT_BY, 7),
                  (3, PUT_BY, "bob", "ann", thing("one"), 5), (3, PUT_BY, thing("two"), 5))

    def test_no_row_of_idle_letters_and_plain_words(self):
        whole = deal(PAY + "day 3")
        idle = [(4, 1, "bob", "cash", 3), (4, 2, "ann", "cash", 0), (4, 3, "ann", "coin", 3), (4, 4, "ann", "back", 3)]
        self.rows(whole, idle + said("4.9 ask", "5 note"), 9)
        parties, rest, words, clauses = whole
        words = tuple(word[:3] + (("before", 4),) if word[0] == "cash" else word for word in words)
        self.rows((parties, rest, words, clauses), said("4 cash 3"), 9)

    def test_made_ones(self):
        seen = {}
        for seed in range(80):
            agreement, letters = made(seed)
            oracle = Oracle(agreement, letters)
            oracle.days(60)
            rows = ledger(agreement, letters, 60)
            self.assertEqual(rows, oracle.rows)
            # Each coin of each letter that counts is led on once, and what is put by goes on from there.
            for one in oracle.heard:
                self.assertEqual(sum(row[5] for row in rows if row[1] == ("letter",) + one[:2]), one[4])
            for pair in {row[2:4] for row in rows}:
                put = sum(row[5] for row in rows if row[2:4] == pair and row[4] == PUT_BY)
                used = sum(row[5] for row in rows if row[2:4] == pair and row[1] == PUT_BY)
                self.assertEqual(put - used, reckoned(agreement, letters, 60).put_by().get(pair, 0))
            self.assertEqual(sorted(row[0] for row in rows), [row[0] for row in rows])
            for day in (0, 20, 40):
                self.assertEqual(ledger(agreement, letters, day), [row for row in rows if row[0] <= day])
            for row in rows:
                name = (row[1][0], row[4][0])
                seen[name] = seen.get(name, 0) + 1
        self.assertEqual(len(seen), 5)
        self.assertGreater(min(seen.values()), 5)

    def test_what_was_paid_is_what_the_state_tells(self):
        for seed in range(80, 120):
            agreement, letters = made(seed)
            rows = ledger(agreement, letters, 60)
            for fee, number, _, paid in reckoned(agreement, letters, 60).fees():
                self.assertEqual(sum(row[5] for row in rows if row[4] == ("fee", fee, number)), paid)


class Balances(unittest.TestCase):
    def test_each_party_is_told(self):
        whole = deal(PAY + "day 3")
        self.assertEqual(balances(whole, [], 9), {"ann": 0, "bob": 0, "cat": 0})
        self.assertEqual(balances(whole, said("4 cash 9"), 3), {"ann": 0, "bob": 0, "cat": 0})
        self.assertEqual(balances(whole, said("4 cash 9"), 4), {"ann": -9, "bob": 9, "cat": 0})
        self.assertEqual(balances(whole, said("1 cash 9", "5 back 4"), 9), {"ann": -5, "bob": 5, "cat": 0})
        self.assertEqual(balances(whole, said("1 cash 9", "5 back 9"), 9), {"ann": 0, "bob": 0, "cat": 0})

    def test_idle_letters_pay_nothing(self):
        whole = deal(PAY + "day 3")
        idle = [(4, 1, "bob", "cash", 3), (4, 2, "ann", "cash", 0), (4, 3, "ann", "coin", 3), (4, 4, "ann", "ask", 3)]
        self.assertEqual(balances(whole, idle, 9), {"ann": 0, "bob": 0, "cat": 0})

    def test_made_ones(self):
        for seed in range(60):
            agreement, letters = made(seed)
            oracle = Oracle(agreement, letters)
            oracle.days(60)
            expected = {party: 0 for party in agreement[0]}
            payees = {word[0]: word[2] for word in agreement[2]}
            for _, _, sender, word, coins in oracle.heard:
                if coins:
                    expected[sender] -= coins
                    expected[payees[word]] += coins
            self.assertEqual(balances(agreement, letters, 60), expected)
            self.assertEqual(sum(expected.values()), 0)


class Refused(Refuses):
    def test_in_this_order(self):
        for function in (ledger, balances):
            self.refuses_in_order(function, deal(PAY + "day 3"))

    def test_what_is_told_is_the_askers_own(self):
        whole = deal(PAY + "day 3")
        for function in (ledger, balances):
            told = function(whole, said("4 cash 9"), 9)
            told.clear()
            self.assertTrue(function(whole, said("4 cash 9"), 9))
