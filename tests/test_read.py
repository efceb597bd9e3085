"""Promise 7: what is written is read as the same; of what isn't, the first wrong row is told."""

import unittest

from dealtongue.agreements import first_wrong
from dealtongue.errors import NoText
from dealtongue.texts import read_agreement, read_condition, show_agreement
from tests.makers import made
from tests.samples import LANGUAGE_WORDS, NO_REST, agreement, odd_things
from tests.test_show import NO_CONDITIONS, ROWS

THIRTY = "9" * 30
HAD = ("had", "wa")

# What comes of rows with a word out, twice or exchanged, and is right all the same: as a row, or as an agreement, too.
RIGHT_BY_FORM = (
    "parties bob cat", "parties ann cat", "parties ann bob", "parties ann ann bob cat", "parties ann bob bob cat",
    "parties ann bob cat cat", "rest 0 0 6", "rest 0 6 6", "rest 6 0", "holiday 0 0 41 3000", "holiday 0 41 41 3000",
    "holiday 0 41 3000 3000", "holiday 41 0 3000", "holiday 0 3000 41",
    "word back by ann to bob while ( had ask and ( ended or not not before 3000 ) )",
)
RIGHT_ALL_THE_SAME = (
    "parties bob ann cat", "parties ann cat bob", "rest 6", "rest 0", "holiday 41 3000", "holiday 0 3000",
    "holiday 0 41",
    "word cash by bob to ann while ( broken give or before 9 or ended )",
    "word cash by bob to ann while ( not not broken give or before 9 or ended )",
    "word cash by bob to ann while not ( broken give or before 9 or ended )",
    "word back by ann to bob while ( had ask and ( ended or before 3000 ) )",
    "duty give : ann must send ask or tell to bob within 1 days after day 41 while had note",
    "duty last : ann must send tell to cat within 2 work after ended while owes late",
    "duty late : ann must pay 5 coins to bob within 7 days after broken settle while ended",
    "free again : late after every 60 from 3 while ended",
    "free again : late after every 60 from 3 while not not ended",
)


def deep(depth, form="not"):
    """The text of a condition that stands within so many others, itself counted."""
    text = "ended"
    for _ in range(depth - 1):
        text = {"not": f"not {text}", "( ahead": f"( {text} and ended )", "( behind": f"( ended or {text} )"}[form]
    return text


def greatest():
    """An agreement with the most of all things, and the greatest numbers."""
    condition = ("not", ("all", ("any", HAD, HAD, HAD, HAD), ("ended",), ("before", 3000), ("broken", "da")))
    words = tuple((f"w{sign}", "from", None if sign in "ab" else "all", condition) for sign in "abcdefgh")
    duties = (
        ("duty", "da", "from", "all", ("send", ("wa", "wb")), ("work", 30), ("every", 3000, 60), condition, True),
        ("duty", "db", "from", "all", ("pay", ("coins", 10 ** 9)), ("days", 30), ("day", 3000), condition, False),
        ("duty", "dc", "from", "all", ("pay", ("share", 1000, 1000)), ("days", 1), ("letter", "wc"), None, False),
    )
    fees = tuple(("fee", f"f{sign}", "da", 10 ** 9, 10 ** 9) for sign in "abcd")
    frees = tuple(("free", f"r{sign}", "db", ("done", "dc"), condition) for sign in "abc")
    ends = tuple(("end", f"e{sign}", ("broken", "da"), condition) for sign in "ab")
    rest = ((0, 1, 2, 6), tuple(range(2981, 3001)))
    return (("from", "all", "any", "share"), rest, words, duties + fees + frees + ends)


def least():
    """An agreement with the fewest of all things, and the least numbers."""
    return (("a", "b"), NO_REST, (("c", "a", None, None),), (
        ("duty", "d", "a", "b", ("send", ("c",)), ("days", 1), ("every", 0, 1), ("before", 0), False),))


class Right(unittest.TestCase):
    def same(self, whole):
        self.assertIsNone(first_wrong(whole))
        text = show_agreement(whole)
        self.assertEqual(read_agreement(text), whole)
        self.assertEqual(show_agreement(read_agreement(text)), text)

    def test_rows_written_by_hand(self):
        self.assertEqual(read_agreement("\n".join(ROWS)), agreement())

    def test_bounds(self):
        self.assertEqual([len(part) for part in greatest()], [4, 2, 8, 12])
        self.same(greatest())
        self.same(least())
        self.assertEqual(read_agreement(show_agreement(least())), least())

    def test_agreements_of_all_kinds(self):
        for seed in range(300):
            self.same(made(seed)[0])

    def test_no_truth_is_read(self):
        text = "parties a b\nrest 1\nholiday 0 1\nword c by a\nend d : after every 1 from 0 while before 1"
        whole = read_agreement(text)
        self.assertEqual(repr(whole), repr((
            ("a", "b"), ((1,), (0, 1)), (("c", "a", None, None),), (("end", "d", ("every", 0, 1), ("before", 1)),))))


class Wrong(unittest.TestCase):
    def wrong(self, text, row):
        with self.assertRaises(NoText) as caught:
            read_agreement(text)
        self.assertEqual(caught.exception.row, row, text)
        self.assertIs(type(caught.exception.row), int)

    def wrong_row(self, row, at, rows=None):
        """A row in the place of one, or of all behind; whatever stands behind it makes no difference."""
        rows = ROWS if rows is None else rows
        ahead = rows[:at]
        for behind in (rows[at + 1:], rows[at:], [], [""], ["parties a b", "duty"], [row, row], ["x  y"] * 40):
            self.wrong("\n".join(ahead + [row] + behind), at)

    def test_what_is_no_text(self):
        for thing in odd_things() + [agreement(), ROWS, tuple(ROWS)]:
            self.wrong(thing, 0)

    def test_an_empty_row(self):
        self.wrong("", 0)
        self.wrong("\n", 0)
        self.wrong("\n" + "\n".join(ROWS), 0)
        self.wrong("\n".join(ROWS) + "\n", len(ROWS))
        self.wrong("\n".join(ROWS) + "\n\n", len(ROWS))
        self.wrong("parties a b\n", 1)
        for at in range(len(ROWS)):
            self.wrong_row("", at)

    def test_a_blank_more_or_one_out(self):
        for at, row in enumerate(ROWS):
            self.wrong_row(" " + row, at)
            self.wrong_row(row + " ", at)
            self.wrong_row(" ", at)
            for place, sign in enumerate(row):
                if sign == " ":
                    self.wrong_row(row[:place] + " " + row[place:], at)
                    if at > 2:
                        self.wrong_row(row[:place] + row[place + 1:], at)
        for at, row in ((0, "partiesann bob cat"), (1, "rest0 6"), (2, "holiday0 41 3000")):
            self.wrong_row(row, at)

    def test_a_row_on_the_next_ones_row(self):
        for at in range(len(ROWS) - 1):
            self.wrong_row(ROWS[at] + " " + ROWS[at + 1], at)

    def test_a_word_of_each_row_out_twice_or_exchanged(self):
        for at, row in enumerate(ROWS):
            for words in self.changes(row.split(" ")):
                changed = " ".join(words)
                rows = ROWS[:at] + [changed] + ROWS[at + 1:]
                if changed in RIGHT_ALL_THE_SAME:
                    self.assertEqual(show_agreement(read_agreement("\n".join(rows))), "\n".join(rows))
                elif changed in RIGHT_BY_FORM:
                    self.wrong("\n".join(rows), len(rows))
                else:
                    self.wrong_row(changed, at)

    def changes(self, words):
        """The words with one out, one twice, or two exchanged."""
        for place, word in enumerate(words):
            yield words[:place] + words[place + 1:]
            yield words[:place] + [word] + words[place:]
            if place and words[place - 1] != word:
                yield words[:place - 1] + [word, words[place - 1]] + words[place + 1:]

    def test_a_word_of_the_language_in_the_place_of_a_name(self):
        names = {name for row in ROWS for name in row.split(" ") if name.isalpha() and name not in LANGUAGE_WORDS}
        names.discard("from")
        for at, row in enumerate(ROWS):
            words = row.split(" ")
            for place, name in enumerate(words):
                if name in names:
                    for other in LANGUAGE_WORDS + ["Ann", "a1", "ninesigns", "7", ":", "(", "", "_"]:
                        self.wrong("\n".join(ROWS[:at] + [" ".join(words[:place] + [other] + words[place + 1:])]), at)

    def test_another_word_in_the_place_of_one_of_the_language(self):
        for at, row in enumerate(ROWS):
            words = row.split(" ")
            for place, word in enumerate(words):
                if word in LANGUAGE_WORDS + ["from", ":", "/", "(", ")"]:
                    for other in ("x", "7", word.upper() + "X", word + "s", "", "(", ")", ":", "by", "and", "from"):
                        if other != word and [word, other] not in (["and", "or"], ["or", "and"]):
                            changed = " ".join(words[:place] + [other] + words[place + 1:])
                            self.wrong("\n".join(ROWS[:at] + [changed]), at)

    def test_numbers(self):
        rows = ["parties a b", "rest 1", "holiday 2", "word c by a", "word e by a to b while before 3"]
        rows += ["duty d : a must pay 4 coins to b within 5 days after day 6",
                 "duty f : a must pay 7 / 8 to b within 9 work after letter e while before 10",
                 "free r : d after every 11 from 12 while not before 13",
                 "fee g : 14 at most 15 for f", "end h : after every 16 from 17"]
        self.assertIsNone(first_wrong(read_agreement("\n".join(rows))))
        seen = 0
        for at, row in enumerate(rows):
            words = row.split(" ")
            for place in range(len(words)):
                if words[place].isdigit():
                    seen += 1
                    for wrong in self.no_numbers(words[place]):
                        words[place] = wrong
                        self.wrong_row(" ".join(words), at, rows)
                    for bound in (THIRTY, "1" + "0" * 29):
                        words[place] = bound
                        self.wrong("\n".join(rows[:at] + [" ".join(words)] + rows[at + 1:]), len(rows))
                    words = row.split(" ")
        self.assertEqual(seen, 17)

    def no_numbers(self, number):
        return [
            "0" + number, "00", "000", "+" + number, "-" + number, "-1", "-0", "1.0", "1e3", "0x1", "1_0", "x",
            number + "x",
            "1" + THIRTY, "9" * 31, "1" + "0" * 30, "0" * 31, "9" * 5000, "", "one", "True", "None", ":", number + ",",
        ]

    def test_brackets(self):
        head = "parties a b\nword c by a\nend e : after day 1 while "
        for text in ("( ended and ended )", "( ended or ended or ended )", "( ( ended or ended ) and ended )"):
            read_agreement(head + text)
        for text in (
            "( ended )", "( ended", "ended )", "( ended and ended", "ended and ended )", "ended and ended",
            "ended or ended",
            "( ended and ended or ended )", "( ended or ended and ended )", "( ended and )", "( and ended )", "( )",
            "(", ")",
            "( ended and ended ) )", "( ( ended and ended )", "( ( ended and ended ) )", "not", "not ( ended )", "",
            "( ended and ( ended ) )", "( ended and and ended )", "( ended ended )", "(ended and ended)", "not not",
            "[ ended and ended ]", "( ended , ended )", "( ended and ended ) and ended", "ended ended", "ended stays",
            "( ended or ended and ended and ended )", "all", "( all ended ended )", "before", "had", "had c d",
            "before c",
            "while ended", "ended while ended", "letter c", "day 1", "done d",
        ):
            self.wrong(head + text, 2)

    def test_conditions_within_one_another(self):
        head = "parties a b\nword c by a\nend e : after day 1 while "
        for form in ("not", "( ahead", "( behind"):
            read_agreement(head + deep(4, form))
            for depth in (5, 6, 39, 40):
                self.wrong(head + deep(depth, form), 3)
            for depth in (41, 42, 400, 5000):
                self.wrong(head + deep(depth, form), 2)
        self.wrong(head + "( ".join([""] * 5000) + "ended", 2)

    def test_the_order_of_rows(self):
        for at in range(1, len(ROWS)):
            self.wrong("\n".join(ROWS[at:]), 0)
        for at, row in enumerate(ROWS):
            for place in range(at + 2, len(ROWS) + 1):
                ranks = [self.rank(other) for other in (row, ROWS[place - 1])]
                moved = ROWS[:at] + ROWS[at + 1:place] + [row] + ROWS[place:]
                if ranks[0] != ranks[1]:
                    # The row that was moved, or the first one that stands ahead of its kind now.
                    wrong = 0 if at == 0 else place - 1
                    self.wrong("\n".join(moved), wrong)
                else:
                    self.assertIsNotNone(read_agreement("\n".join(moved)))

    def rank(self, row):
        return {"parties": 0, "rest": 1, "holiday": 2, "word": 3}.get(row.split(" ")[0], 4)

    def test_a_second_row(self):
        for at in (0, 1, 2):
            self.wrong_row(ROWS[at], at + 1, ROWS[:at + 1] + ROWS[at:])
            self.wrong("\n".join(ROWS + [ROWS[at]]), len(ROWS))
        self.wrong("parties a b\nparties a b", 1)
        self.wrong("parties a b\nrest 1\nrest 2", 2)
        self.wrong("parties a b\nholiday 1\nholiday 2", 2)
        self.wrong("parties a b\nholiday 1\nrest 2", 2)

    def test_rows_of_no_kind(self):
        for row in ("x", "party a b", "Parties a b", "clause", "( ended and ended )", "ended", "days 3", "while ended",
                    "parties", "rest", "holiday", "word", "duty", "fee", "free", "end", "PARTIES a b", "parties:"):
            for at in range(4):
                self.wrong_row(row, at)

    def test_the_first_wrong_row_is_told(self):
        for at in range(1, len(ROWS)):
            for later in range(at + 1, len(ROWS)):
                rows = list(ROWS)
                rows[at] = rows[at] + " x x"
                rows[later] = ""
                self.wrong("\n".join(rows), at)


class RightRowsThatMakeNone(unittest.TestCase):
    def none(self, *rows):
        with self.assertRaises(NoText) as caught:
            read_agreement("\n".join(rows))
        self.assertEqual(caught.exception.row, len(rows), rows)

    def changed(self, at, row):
        self.none(*ROWS[:at], row, *ROWS[at + 1:])

    def test_parties(self):
        self.none("parties a")
        self.none("parties a b")
        self.none("parties a b", "word c by a")
        self.none("parties a b", "end d : after day 1")
        self.none("parties a", "word c by a", "end d : after day 1")
        for row in ("parties ann", "parties ann bob", "parties ann bob cat ann", "parties a b c d e",
                    "parties ann bob ask",
                    "parties ann bob cat dan eve", "parties ann bob cat give", "parties " + " ".join(["ann"] * 60)):
            self.changed(0, row)

    def test_rest(self):
        for row in ("rest 7", "rest 6 5", "rest 1 1", "rest 0 1 2 3 4", "rest 0 1 2 3 4 5 6", "rest 3000",
                    "rest " + THIRTY):
            self.changed(1, row)
        for row in ("holiday 3001", "holiday 2 1", "holiday 7 7", "holiday " + " ".join(map(str, range(21)))):
            self.changed(2, row)

    def test_words(self):
        for row in ("word tell by ann", "word ask by dan", "word ask by ask", "word ask by ann to ann",
                    "word ask by ann to x",
                    "word ann by ann", "word give by ann", "word ask by ann to bob", "word ask by ann while had give",
                    "word ask by ann while had x", "word ask by ann while owes ask",
                    "word ask by ann while broken fine",
                    "word ask by ann while before 3001",
                    "word ask by ann while ( ended or ended or ended or ended or ended )",
                    "word ask by ann while not not not not ended", "word ask by ann while ( had x and ended )"):
            self.changed(3, row)
        words = [f"word w{sign} by ann" for sign in "abcdefgh"]
        clause = "end e : after day 1"
        self.assertIsNotNone(read_agreement("\n".join(["parties ann bob"] + words + [clause])))
        self.none("parties ann bob", *words, "word wi by ann", clause)

    def test_duties(self):
        head = "duty give : ann must "
        tail = " to bob within 1 days after day 41"
        self.assertIsNotNone(read_agreement("\n".join(ROWS[:8] + [head + "send ask" + tail] + ROWS[9:])))
        for row in (
            head + "send ask or ask" + tail, head + "send ask or tell or ask" + tail, head + "send note" + tail,
            head + "send cash" + tail, head + "send x" + tail, head + "send back" + tail, head + "send ann" + tail,
            head + "pay 0 coins" + tail, head + "pay 1000000001 coins" + tail, head + "pay 1 / 2" + tail,
            head + "pay 0 / 0" + tail, head + "send ask to ann within 1 days after day 41",
            head + "send ask to dan within 1 days after day 41", head + "pay 1 coins to cat within 1 days after day 41",
            head + "send ask to bob within 0 days after day 41", head + "send ask to bob within 31 work after day 41",
            head + "send ask to bob within 1 days after day 3001",
            head + "send ask to bob within 1 days after every 0 from 1",
            head + "send ask to bob within 1 days after every 61 from 1",
            head + "send ask to bob within 1 days after letter x",
            head + "send ask to bob within 1 days after every 1 from 3001",
            head + "send ask to bob within 1 days after done fine",
            head + "send ask to bob within 1 days after broken ask",
            head + "pay 1 / 2 to bob within 1 days after letter ask",
            head + "pay 3 / 2 to bob within 1 days after letter cash",
            head + "pay 1 / 1001 to bob within 1 days after letter cash",
            head + "pay 1 / 2 to bob within 1 days after ended",
            head + "pay 1 / 2 to cat within 1 days after letter cash", head + "send ask" + tail + " while had give",
            "duty settle : ann must send ask" + tail, "duty ann : ann must send ask" + tail,
            "duty ask : ann must send ask" + tail,
            "duty give : ask must send ask" + tail, "duty give : cat must send ask" + tail,
        ):
            self.changed(8, row)

    def test_other_clauses(self):
        for row in (
            "fee fine : 0 at most 60 for settle", "fee fine : 1 at most 0 for settle", "fee fine : 1 at most 60 for x",
            "fee fine : 1000000001 at most 60 for settle", "fee fine : 1 at most 1000000001 for settle",
            "fee fine : 1 at most 60 for answer", "fee mild : 1 at most 60 for settle",
            "fee fine : 1 at most 60 for ask",
            "free fine : x after day 1", "free fine : give after ended", "free fine : fine after day 1",
            "end fine : after ended", "end fine : after day 3001", "end fine : after done halt",
            "end fine : after letter give",
            "end give : after day 1", "end fine : after day 1 while owes ask", "end cat : after day 1",
        ):
            self.changed(14, row)
        self.none(*ROWS, "end more : after day 1")
        self.none(*ROWS[:8])
        self.none(ROWS[0], *ROWS[8:])

    def test_brackets_with_many_parts(self):
        self.none(*ROWS[:-1], "end halt : after day 1 while ( " + " and ".join(["ended"] * 500) + " )")
        self.none(*ROWS[:-1], "end halt : after day 1 while ( had x or had x or had x or had x or had x )")


class Conditions(unittest.TestCase):
    def test_what_is_none(self):
        for text in odd_things() + [thing for thing in NO_CONDITIONS if not isinstance(thing, str)] + [
            "\n", "had ask\n", "\nhad ask", " had ask", "had ask ", "had  ask", "had", "had duty", "had ask ask",
            "had Ask",
            "before 3001", "before -1", "before 01", "before " + THIRTY, "before 1" + THIRTY, "before", "ended ended",
            "( ended )", "( ended and ended or ended )", "( ended and ended", "( ended and ended ) ended",
            "while ended",
            "( ended and ended and ended and ended and ended )", "( ended or ended or ended or ended or ended )",
            "not not not not ended", "( ended and not not not ended )",
            "( ended or ( ended and ( ended or not ended ) ) )",
            deep(40), deep(41), deep(5000), deep(5), deep(5, "( ahead"), "had ask\nhad ask", "not", "all", "letter ask",
        ]:
            with self.assertRaises(NoText) as caught:
                read_condition(text)
            self.assertEqual(caught.exception.row, 0)

    def test_bounds(self):
        self.assertEqual(read_condition("before 3000"), ("before", 3000))
        self.assertEqual(read_condition(deep(4)), ("not", ("not", ("not", ("ended",)))))
        self.assertEqual(read_condition("( ended and ended and ended and ended )"), ("all",) + (("ended",),) * 4)
        self.assertEqual(read_condition("( ended or ended )"), ("any", ("ended",), ("ended",)))
