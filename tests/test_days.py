import unittest

from dealtongue.days import after, is_rest, is_span, is_work, work_between, work_days_to
from dealtongue.errors import NoDay, NoRest, NoSpan
from tests.samples import BIG, NO_REST, odd_things

TWENTY = tuple(range(100, 120))
RESTS = [
    NO_REST,
    ((0,), ()),
    ((5, 6), ()),
    ((0, 2, 4, 6), ()),
    ((3, 4, 5, 6), ()),
    ((), (0,)),
    ((), (3, 4, 5, 10)),
    ((), (2999, 3000)),
    ((), TWENTY),
    ((5, 6), (7, 8, 9, 10, 11, 14)),
    ((0, 1, 2, 3), TWENTY),
    ((1, 6), (0, 1, 2, 6, 7, 8, 1500, 2996, 2997, 2998, 2999, 3000)),
]
NO_DAYS = [-1, 3001, BIG, -BIG, None, True, False, "", "3", (), (3,), [3], {}, {3: 3}]


def plain_work(day, rest):
    """The sentence of the document, word by word."""
    return not (any(day % 7 == part for part in rest[0]) or any(day == part for part in rest[1]))


def plain_after(day, many, rest):
    """Counts on, day by day, on the fingers."""
    while many:
        day = day + 1
        many = many - 1 if plain_work(day, rest) else many
    return day


class Truths(unittest.TestCase):
    """Asks the function of things that are one, and of things that are none."""

    function = None

    def yes(self, *things):
        self.tells(True, things)

    def no(self, *things):
        self.tells(False, things)

    def tells(self, truth, things):
        for thing in things:
            with self.subTest(thing):
                self.assertIs(self.function(thing), truth)


class IsRest(Truths):
    function = staticmethod(is_rest)

    def test_what_is_one(self):
        self.yes(*RESTS)

    def test_weekdays(self):
        self.yes(((0, 1, 2, 3), ()), ((6,), ()), ((0,), ()))
        self.no(((0, 1, 2, 3, 4), ()), ((7,), ()), ((-1,), ()), ((0, 7), ()), ((BIG,), ()))
        self.no(((2, 1), ()), ((1, 1), ()), ((0, 2, 1), ()), ((0, 3, 3), ()))
        self.no(((True,), ()), ((False, 2), ()), ((0, True), ()), ((None,), ()), (("1",), ()), (((1,),), ()))

    def test_holidays(self):
        self.yes(((), TWENTY), ((), (0, 3000)), ((), (0,)), ((), (3000,)))
        self.no(((), TWENTY + (120,)), ((), (3001,)), ((), (-1,)), ((), (0, 3001)), ((), (BIG,)), ((), (-BIG, 1)))
        self.no(((), (9, 8)), ((), (8, 8)), ((), (1, 3, 2)), ((), (1, 3, 3)))
        self.no(((), (True,)), ((), (False, 2)), ((), (0, True)), ((), (None,)), ((), ("1",)), ((), ([1],)))

    def test_no_order_is_asked_of_what_is_no_number(self):
        self.no(((1, None), ()), (("a", 1), ()), ((), (1, "a")), ((), ({}, 1)), ((), ((1,), 2)), (([], []), ()))

    def test_pair_of_tuples(self):
        self.no([(), ()], ([], ()), ((), []), ([1], [2]), ((),), ((), (), ()), (), ("", ""), (None, ()), ((), None))
        self.no({(): ()}, "()", (0, 1), (1, ()), ((), 1), ({}, ()), ((), {}))

    def test_odd_things(self):
        self.no(*odd_things())


class IsSpan(Truths):
    function = staticmethod(is_span)

    def test_bounds(self):
        for word in ("days", "work"):
            self.yes(*[(word, many) for many in range(1, 31)])
            self.no((word, 0), (word, 31), (word, -1), (word, BIG), (word, -BIG))

    def test_what_is_no_number(self):
        self.no(("days", True), ("work", False), ("days", "1"), ("days", None), ("days", (1,)), ("work", [1]))

    def test_other_words(self):
        self.no(("day", 1), ("works", 1), ("", 1), ("Days", 1), ("weeks", 1), (1, "days"), (None, 1), (True, 1))
        self.no((["days"], 1), ({}, 1), (("days",), 1), ("days work", 1))

    def test_form(self):
        self.no(["days", 1], ("days",), ("days", 1, 1), (), ("days", 1, None), {"days": 1}, "days", (("days", 1),))

    def test_odd_things(self):
        self.no(*odd_things())


class IsWork(unittest.TestCase):
    def test_each_kind_of_rest(self):
        self.assertEqual([is_work(day, NO_REST) for day in range(8)], [True] * 8)
        week = [is_work(day, ((0, 6), ())) for day in range(15)]
        self.assertEqual(week, [False] + [True] * 5 + [False] * 2 + [True] * 5 + [False] * 2)
        self.assertEqual([is_work(day, ((), (2, 4))) for day in range(6)], [True, True, False, True, False, True])
        self.assertEqual([is_work(day, ((1,), (2,))) for day in range(9)], [True, False, False] + [True] * 5 + [False])

    def test_against_the_sentence(self):
        for rest in RESTS:
            for day in range(3001):
                self.assertIs(is_work(day, rest), plain_work(day, rest))

    def test_refusals(self):
        for day in NO_DAYS:
            self.assertRaises(NoDay, is_work, day, NO_REST)
        for rest in odd_things():
            self.assertRaises(NoRest, is_work, 3, rest)
        self.assertRaises(NoRest, is_work, 3, ((1, 1), ()))
        self.assertRaises(NoDay, is_work, 3001, None)
        self.assertRaises(NoDay, is_work, None, None)


class After(unittest.TestCase):
    def test_days_pass_over_no_rest(self):
        for rest in RESTS:
            self.assertEqual(after(0, ("days", 1), rest), 1)
            self.assertEqual(after(2, ("days", 3), rest), 5)
            self.assertEqual(after(3000, ("days", 30), rest), 3030)

    def test_working_days(self):
        self.assertEqual(after(4, ("work", 3), NO_REST), 7)
        self.assertEqual(after(4, ("work", 1), ((5, 6), ())), 7)
        self.assertEqual(after(4, ("work", 6), ((5, 6), ())), 14)
        self.assertEqual(after(4, ("work", 1), ((), (5, 6, 7))), 8)
        self.assertEqual(after(4, ("work", 1), ((5, 6), (7, 8))), 9)
        # The day itself never counts, whether one works on it or not.
        self.assertEqual(after(5, ("work", 1), ((5, 6), ())), 7)
        self.assertEqual(after(7, ("work", 1), ((5, 6), ())), 8)

    def test_at_the_edge_of_a_holiday(self):
        rest = ((), (10, 11))
        self.assertEqual([after(day, ("work", 1), rest) for day in (8, 9, 10, 11, 12)], [9, 12, 12, 12, 13])
        self.assertEqual([after(day, ("work", 2), rest) for day in (7, 8, 9, 10)], [9, 12, 13, 13])

    def test_at_both_ends(self):
        self.assertEqual(after(0, ("work", 1), NO_REST), 1)
        self.assertEqual(after(0, ("work", 1), ((0, 1), (2,))), 3)
        self.assertEqual(after(3000, ("work", 1), NO_REST), 3001)
        self.assertEqual(after(2999, ("work", 1), ((), (3000,))), 3001)
        # 3000 leaves 4 by 7, so that 3001 and 3002 leave 5 and 6, and 3003 leaves 0.
        self.assertEqual(after(3000, ("work", 2), ((1, 2, 3, 4), ())), 3002)
        self.assertEqual(after(3000, ("work", 3), ((0, 1, 2, 3), ())), 3007)
        self.assertEqual(after(3000, ("work", 30), ((0, 1, 2, 3), ())), 3070)

    def test_against_a_plain_count(self):
        days = list(range(0, 160)) + list(range(1480, 1530)) + list(range(2950, 3001))
        for rest in RESTS:
            for day in days:
                for many in (1, 2, 3, 7, 29, 30):
                    self.assertEqual(after(day, ("days", many), rest), day + many)
                    self.assertEqual(after(day, ("work", many), rest), plain_after(day, many, rest))

    def test_refusals(self):
        for day in NO_DAYS:
            self.assertRaises(NoDay, after, day, ("days", 1), NO_REST)
        for span in odd_things() + [("days", 0), ("work", 31), ("days", True), ["days", 1]]:
            self.assertRaises(NoSpan, after, 3, span, NO_REST)
        for rest in odd_things() + [((7,), ()), ((), (3001,)), [(), ()]]:
            self.assertRaises(NoRest, after, 3, ("work", 1), rest)
            # A rest is wanted of spans of plain days, too.
            self.assertRaises(NoRest, after, 3, ("days", 1), rest)

    def test_the_first_refusal_goes_first(self):
        self.assertRaises(NoDay, after, -1, None, None)
        self.assertRaises(NoDay, after, True, ("days", 1), None)
        self.assertRaises(NoDay, after, None, ("days", 0), NO_REST)
        self.assertRaises(NoSpan, after, 3000, ("days", 31), ((7,), ()))


class WorkBetween(unittest.TestCase):
    def test_later_than_one_and_not_later_than_the_other(self):
        self.assertEqual(work_between(3, 4, NO_REST), 1)
        self.assertEqual(work_between(3, 10, NO_REST), 7)
        self.assertEqual(work_between(3, 10, ((5, 6), ())), 5)
        self.assertEqual(work_between(3, 5, ((3,), ())), 2)
        self.assertEqual(work_between(3, 5, ((5,), ())), 1)
        self.assertEqual(work_between(3, 5, ((), (3,))), 2)
        self.assertEqual(work_between(3, 5, ((), (5,))), 1)
        self.assertEqual(work_between(3, 5, ((), (4, 5))), 0)
        # A holiday on a weekday of rest is lost once.
        self.assertEqual(work_between(0, 14, ((5, 6), (5, 7))), 9)

    def test_equal_days_and_days_turned_about(self):
        for rest in RESTS:
            for day in (0, 1, 7, 1500, 3000):
                self.assertEqual(work_between(day, day, rest), 0)
            self.assertEqual(work_between(9, 2, rest), 0)
            self.assertEqual(work_between(3000, 0, rest), 0)

    def test_from_end_to_end(self):
        self.assertEqual(work_between(0, 3000, NO_REST), 3000)
        self.assertEqual(work_between(0, 3000, ((), (0, 3000))), 2999)
        self.assertEqual(work_between(2999, 3000, NO_REST), 1)
        self.assertEqual(work_between(2999, 3000, ((), (3000,))), 0)

    def test_against_a_plain_count(self):
        for rest in RESTS:
            for one in (0, 1, 5, 6, 7, 99, 100, 119, 120, 1499, 1500, 2990, 2998, 2999, 3000):
                count = 0
                for other in range(one + 1, 3001):
                    count += plain_work(other, rest)
                    self.assertEqual(work_between(one, other, rest), count)

    def test_the_count_behind_it_begins_with_day_0(self):
        self.assertEqual([work_days_to(day, NO_REST) for day in (0, 1, 6, 7, 3000)], [1, 2, 7, 8, 3001])
        self.assertEqual([work_days_to(day, ((0,), (1,))) for day in (0, 1, 2, 7)], [0, 0, 1, 5])

    def test_refusals(self):
        for day in NO_DAYS:
            self.assertRaises(NoDay, work_between, day, 5, NO_REST)
            self.assertRaises(NoDay, work_between, 5, day, NO_REST)
            self.assertRaises(NoDay, work_between, 5, day, None)
            self.assertRaises(NoDay, work_between, day, 5, None)
        for rest in odd_things():
            self.assertRaises(NoRest, work_between, 3, 5, rest)
            # Also where the answer would be 0 under any rest.
            self.assertRaises(NoRest, work_between, 5, 3, rest)
