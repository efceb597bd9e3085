"""Promise 7: what agreements and conditions are written as."""

import unittest

from dealtongue.agreements import first_wrong
from dealtongue.conditions import is_condition
from dealtongue.errors import NoAgreement, NoCondition
from dealtongue.texts import read_agreement, read_condition, show_agreement, show_condition
from tests.samples import CLAUSES, PARTIES, REST, WORDS, agreement, odd_things, with_clause, with_word

ROWS = [
    "parties ann bob cat",
    "rest 0 6",
    "holiday 0 41 3000",
    "word ask by ann",
    "word tell by ann while had cash",
    "word note by bob while owes give",
    "word cash by bob to ann while ( not broken give or before 9 or ended )",
    "word back by ann to bob while ( had ask and ( ended or not before 3000 ) )",
    "duty give : ann must send ask or tell to bob within 1 days after day 41 while had note stays",
    "duty settle : bob must pay 12 coins to ann within 30 work after every 7 from 2 while ended",
    "duty part : bob must pay 2 / 3 to ann within 9 days after letter back while ended",
    "duty answer : bob must send note to cat within 2 work after done part while before 8",
    "duty last : ann must send tell to cat within 2 work after ended while owes late stays",
    "duty late : ann must pay 5 coins to bob within 7 days after broken settle while ended stays",
    "fee fine : 2 at most 60 for settle",
    "fee mild : 1 at most 1000000000 for give",
    "free spare : give after letter note while owes give",
    "free again : late after every 60 from 3 while not ended",
    "end stop : after broken give while before 7",
    "end halt : after done late while had back",
]
HAD = ("had", "ask")
CONDITIONS = (
    (HAD, "had ask"),
    (("owes", "give"), "owes give"),
    (("broken", "give"), "broken give"),
    (("ended",), "ended"),
    (("before", 0), "before 0"),
    (("before", 3000), "before 3000"),
    (("not", HAD), "not had ask"),
    (("not", ("not", ("not", ("ended",)))), "not not not ended"),
    (("all", HAD, HAD), "( had ask and had ask )"),
    (("any", HAD, ("before", 12), ("owes", "a"), ("ended",)), "( had ask or before 12 or owes a or ended )"),
    (("all", HAD, HAD, ("ended",), HAD), "( had ask and had ask and ended and had ask )"),
    (("not", ("any", ("ended",), ("not", HAD))), "not ( ended or not had ask )"),
    (("all", ("any", ("all", HAD, HAD), HAD), HAD), "( ( ( had ask and had ask ) or had ask ) and had ask )"),
    # Whatever it names, words of the telling, too.
    (("had", "from"), "had from"),
    (("any", ("owes", "all"), ("broken", "any")), "( owes all or broken any )"),
    (("had", "share"), "had share"),
    (("had", "abcdefgh"), "had abcdefgh"),
)
NO_CONDITIONS = (
    ("had",), ("had", "duty"), ("had", "Ask"), ("had", "ask", "ask"), ("had", 1), ("owes", "ninesigns"), ["had", "ask"],
    ("ended", "x"), ("before",), ("before", -1), ("before", 3001), ("before", True), ("before", "1"), ("not",),
    ("not", HAD, HAD), ("not", None), ("all", HAD), ("any",), ("all",) + (HAD,) * 5, ("and", HAD, HAD), ("had", None),
    ("not", ("not", ("not", ("not", HAD)))), ("all", HAD, ("any", HAD, ("all", HAD, ("not", HAD)))), "had ask", "ended",
    ("any", HAD, ["ended"]), ("letter", "ask"), ("day", 1),
)


def rows_with_clause(clause):
    """The rows of the agreement with this clause as its last one."""
    return show_agreement(with_clause(clause)).split("\n")


class Agreements(unittest.TestCase):
    def test_all_kinds_of_rows(self):
        self.assertEqual(show_agreement(agreement()), "\n".join(ROWS))

    def test_rest_and_holidays(self):
        for rest, rows in (
            (((), ()), []),
            (((5,), ()), ["rest 5"]),
            (((), (0,)), ["holiday 0"]),
            (((0, 1, 2, 6), ()), ["rest 0 1 2 6"]),
            (((0,), (3000,)), ["rest 0", "holiday 3000"]),
            (((), tuple(range(20))), ["holiday " + " ".join(str(day) for day in range(20))]),
        ):
            self.assertEqual(show_agreement(agreement(rest=rest)).split("\n"), ROWS[:1] + rows + ROWS[3:])

    def test_parties(self):
        whole = agreement(parties=("ann", "bob", "cat", "all"))
        self.assertEqual(show_agreement(whole).split("\n"), ["parties ann bob cat all"] + ROWS[1:])
        small = (("b", "a"), ((), ()), (("x", "a", None, None),), (("end", "e", ("day", 0), None),))
        self.assertEqual(show_agreement(small), "parties b a\nword x by a\nend e : after day 0")

    def test_words(self):
        for word, row in (
            (("more", "cat", None, None), "word more by cat"),
            (("more", "cat", "ann", None), "word more by cat to ann"),
            (("more", "cat", None, ("ended",)), "word more by cat while ended"),
            (("more", "cat", "bob", ("not", HAD)), "word more by cat to bob while not had ask"),
            (("from", "cat", "bob", ("had", "from")), "word from by cat to bob while had from"),
        ):
            self.assertEqual(show_agreement(with_word(word)).split("\n"), ROWS[:8] + [row] + ROWS[8:])

    def test_duties(self):
        def shown(act=("send", ("ask",)), span=("days", 1), trigger=("day", 1), condition=None, stays=False):
            return rows_with_clause(("duty", "more", "ann", "bob", act, span, trigger, condition, stays))[-1]

        head = "duty more : ann must send ask to bob within "
        self.assertEqual(shown(), head + "1 days after day 1")
        self.assertEqual(shown(stays=True), head + "1 days after day 1 stays")
        self.assertEqual(shown(condition=HAD), head + "1 days after day 1 while had ask")
        self.assertEqual(shown(condition=("all", HAD, HAD), stays=True),
                         head + "1 days after day 1 while ( had ask and had ask ) stays")
        self.assertEqual(shown(span=("days", 30)), head + "30 days after day 1")
        self.assertEqual(shown(span=("work", 1)), head + "1 work after day 1")
        self.assertEqual(shown(span=("work", 12)), head + "12 work after day 1")
        for trigger, text in self.triggers() + [(("ended",), "ended")]:
            self.assertEqual(shown(trigger=trigger), head + "1 days after " + text)
        for act, text in (
            (("send", ("tell", "ask")), "send tell or ask"),
            (("send", ("tell",)), "send tell"),
            (("pay", ("coins", 1)), "pay 1 coins"),
            (("pay", ("coins", 1000000000)), "pay 1000000000 coins"),
        ):
            self.assertEqual(shown(act=act), "duty more : ann must " + text + " to bob within 1 days after day 1")
        for top, bottom in ((1, 1), (1, 1000), (1000, 1000), (2, 3)):
            self.assertEqual(shown(act=("pay", ("share", top, bottom)), trigger=("letter", "cash")),
                             f"duty more : ann must pay {top} / {bottom} to bob within 1 days after letter cash")

    def triggers(self):
        return [
            (("day", 0), "day 0"), (("day", 3000), "day 3000"), (("every", 0, 60), "every 60 from 0"),
            (("every", 3000, 1), "every 1 from 3000"), (("every", 7, 8), "every 8 from 7"),
            (("letter", "cash"), "letter cash"), (("done", "give"), "done give"), (("broken", "part"), "broken part"),
        ]

    def test_fees(self):
        self.assertEqual(rows_with_clause(("fee", "more", "give", 1, 1))[-1], "fee more : 1 at most 1 for give")
        self.assertEqual(rows_with_clause(("fee", "more", "settle", 1000000000, 5))[-1],
                         "fee more : 1000000000 at most 5 for settle")

    def test_frees_and_ends(self):
        for trigger, text in self.triggers():
            self.assertEqual(rows_with_clause(("free", "more", "give", trigger, None))[-1],
                             "free more : give after " + text)
            self.assertEqual(rows_with_clause(("free", "more", "part", trigger, HAD))[-1],
                             "free more : part after " + text + " while had ask")
            self.assertEqual(rows_with_clause(("end", "more", trigger, None))[-1], "end more : after " + text)
            self.assertEqual(rows_with_clause(("end", "more", trigger, ("not", HAD)))[-1],
                             "end more : after " + text + " while not had ask")

    def test_names_that_are_words_of_the_telling(self):
        whole = (
            ("from", "all"), ((), ()), (("any", "from", None, None), ("share", "all", "from", ("had", "any"))),
            (("duty", "weekdays", "all", "from", ("pay", ("share", 1, 2)), ("work", 3), ("letter", "share"), None,
              True),
             ("fee", "name", "weekdays", 1, 2), ("end", "trigger", ("broken", "weekdays"), ("owes", "weekdays"))),
        )
        self.assertEqual(show_agreement(whole).split("\n"), [
            "parties from all", "word any by from", "word share by all to from while had any",
            "duty weekdays : all must pay 1 / 2 to from within 3 work after letter share stays",
            "fee name : 1 at most 2 for weekdays", "end trigger : after broken weekdays while owes weekdays",
        ])
        self.assertEqual(read_agreement(show_agreement(whole)), whole)

    def test_what_is_no_agreement(self):
        for thing in odd_things() + [
            list(agreement()), agreement(parties=("ann",)), agreement(rest=((7,), ())), agreement(words=()),
            with_word(("ask", "ann", None, None)), agreement(clauses=()), agreement(clauses=CLAUSES + CLAUSES[:1]),
            with_clause(("end", "more", ("ended",), None)), with_clause(("fee", "more", "nowhere", 1, 1)),
            agreement(parties=list(PARTIES)), agreement(rest=list(REST)), agreement(words=list(WORDS)), "\n".join(ROWS),
        ]:
            with self.assertRaises(NoAgreement) as caught:
                show_agreement(thing)
            self.assertEqual(caught.exception.place, first_wrong(thing))
            self.assertIsNotNone(caught.exception.place)


class Conditions(unittest.TestCase):
    def test_shown_and_read(self):
        for condition, text in CONDITIONS:
            self.assertEqual(show_condition(condition), text)
            self.assertEqual(read_condition(text), condition)

    def test_in_an_agreement(self):
        for condition, text in CONDITIONS[:13]:
            whole = with_word(("more", "cat", None, condition))
            self.assertEqual(first_wrong(whole), None if "owes a" not in text else ("word", 5))
            if first_wrong(whole) is None:
                self.assertEqual(show_agreement(whole).split("\n")[8], "word more by cat while " + text)
                self.assertEqual(read_agreement(show_agreement(whole)), whole)

    def test_what_is_no_condition(self):
        for thing in odd_things() + list(NO_CONDITIONS):
            self.assertFalse(is_condition(thing), thing)
            with self.assertRaises(NoCondition):
                show_condition(thing)
