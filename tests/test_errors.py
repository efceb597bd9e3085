import unittest

from dealtongue import errors

# name: (class straight above, fields)
CLASSES = {
    "DealError": (ValueError, ()),
    "NoSpan": (errors.DealError, ()),
    "NoRest": (errors.DealError, ()),
    "NoAgreement": (errors.DealError, ("place",)),
    "NoText": (errors.DealError, ("row",)),
    "NoLetters": (errors.DealError, ()),
    "NoLetter": (errors.DealError, ()),
    "NoCondition": (errors.DealError, ()),
    "NoHappening": (errors.DealError, ()),
    "NoVersions": (errors.DealError, ()),
    "NoOpen": (errors.DealError, ()),
    "Open": (errors.DealError, ()),
    "Withdrawn": (errors.DealError, ("said", "turn")),
    "NoDeed": (errors.DealError, ()),
    "HasCoins": (errors.DealError, ()),
    "OtherParties": (errors.DealError, ()),
    "TooWide": (errors.DealError, ()),
    "NoLetterThere": (KeyError, ("said", "turn")),
    "NoClause": (KeyError, ("name",)),
    "NoDay": (IndexError, ()),
    "NothingDone": (LookupError, ()),
    "Twice": (RuntimeError, ("said", "turn")),
}


class Errors(unittest.TestCase):
    def test_each_stands_straight_under_its_class(self):
        for name, (above, _) in CLASSES.items():
            with self.subTest(name):
                self.assertEqual(getattr(errors, name).__bases__, (above,))

    def test_each_is_defined_in_errors(self):
        for name in CLASSES:
            with self.subTest(name):
                self.assertEqual(getattr(errors, name).__module__, "dealtongue.errors")

    def test_there_are_no_others(self):
        found = [name for name, thing in vars(errors).items() if isinstance(thing, type)]
        self.assertEqual(sorted(found), sorted(CLASSES))

    def test_fields_are_made_by_place(self):
        for name, (_, fields) in CLASSES.items():
            with self.subTest(name):
                values = [("clause", 3), 7][:len(fields)]
                error = getattr(errors, name)(*values)
                self.assertEqual([getattr(error, field) for field in fields], values)
                self.assertEqual(vars(error), dict(zip(fields, values)))

    def test_fields_keep_whatever_they_are_given(self):
        for thing in (None, True, 10 ** 2999, "", [1], {"a": ()}):
            self.assertIs(errors.NoClause(thing).name, thing)
            self.assertIs(errors.NoAgreement(thing).place, thing)
            self.assertIs(errors.NoText(thing).row, thing)

    def test_each_is_raised_and_caught_by_its_own_name(self):
        for name, (above, fields) in CLASSES.items():
            kind = getattr(errors, name)
            for caught in (kind, above):
                with self.subTest(name, caught=caught):
                    with self.assertRaises(caught):
                        raise kind(*[1, 2][:len(fields)])
