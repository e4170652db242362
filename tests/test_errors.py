"""Promise 8: the families of refusals, and all the classes under them."""

import unittest

from beatflows import errors
from beatflows.errors import Barred, FlowError, Missing
from tests.helper import any_things

OF_ONE_FOUND = (
    "NoKind NoWidth NoWorth NoWorths NoBits NoNumber NoOp NoTerm NoNames NoNode NoNodes NoProgram NoIns NoFlat"
    " NoCode NoWires NoLetter NoPaper NoEdit NoModules NoText NoLine"
).split()

CLASSES = {name: (FlowError, ("found",)) for name in OF_ONE_FOUND} | {
    "Unfit": (FlowError, ("where", "at", "why", "found")),
    "Ringed": (FlowError, ("where", "ring")),
    "Bare": (FlowError, ("where", "at", "found")),
    "NoRow": (FlowError, ("at",)),
    "NotThere": (Missing, ("found",)),
    "NoOut": (Missing, ("found",)),
    "NoImport": (Missing, ("where", "found")),
    "TooMany": (Barred, ("many",)),
    "TooSlow": (Barred, ("many",)),
    "TooLate": (Barred, ("found",)),
    "Twice": (Barred, ("found",)),
    "Over": (Barred, ("found",)),
    "Busy": (Barred, ("found",)),
}


class Families(unittest.TestCase):
    def test_families_stand_under_pythons_own(self):
        self.assertEqual(FlowError.__bases__, (ValueError,))
        self.assertEqual(Missing.__bases__, (KeyError,))
        self.assertEqual(Barred.__bases__, (LookupError,))

    def test_families_are_made_of_one_text(self):
        for family in (FlowError, Missing, Barred):
            with self.subTest(family=family.__name__):
                self.assertEqual(family("why not").args, ("why not",))
                self.assertRaises(TypeError, family)
                self.assertRaises(TypeError, family, "why", "not")

    def test_a_family_tells_its_text(self):
        self.assertEqual(str(FlowError("why not")), "why not")
        self.assertEqual(str(Barred("why not")), "why not")


class Classes(unittest.TestCase):
    def test_all_are_there_and_no_others(self):
        told = [name for name, thing in vars(errors).items() if isinstance(thing, type)]
        self.assertEqual(sorted(told), sorted([*CLASSES, "FlowError", "Missing", "Barred"]))

    def test_each_stands_straight_under_its_family(self):
        for name, (family, _) in CLASSES.items():
            with self.subTest(name=name):
                error = getattr(errors, name)
                self.assertEqual(error.__bases__, (family,))
                self.assertEqual(error.__module__, "beatflows.errors")

    def test_fields_by_places_are_the_very_things(self):
        for name, (_, fields) in CLASSES.items():
            for thing in any_things():
                things = [[thing, place] for place in range(len(fields))]
                error = getattr(errors, name)(*things)
                for field, handed in zip(fields, things):
                    self.assertIs(getattr(error, field), handed, (name, field))

    def test_fields_by_names(self):
        for name, (_, fields) in CLASSES.items():
            things = {field: [field] for field in reversed(fields)}
            error = getattr(errors, name)(**things)
            for field in fields:
                self.assertIs(getattr(error, field), things[field], (name, field))

    def test_each_has_just_its_fields(self):
        for name, (_, fields) in CLASSES.items():
            error = getattr(errors, name)(*fields)
            self.assertEqual(vars(error), {field: field for field in fields}, name)
            self.assertRaises(TypeError, getattr(errors, name), *fields[1:])
            self.assertRaises(TypeError, getattr(errors, name), *fields, "more")

    def test_each_is_caught_as_its_family_and_no_other(self):
        families = (FlowError, Missing, Barred)
        for name, (family, fields) in CLASSES.items():
            error = getattr(errors, name)(*fields)
            self.assertEqual([isinstance(error, one) for one in families], [one is family for one in families], name)

    def test_a_message_is_told_of_any_thing(self):
        shared = ()
        for _ in range(39):
            shared = (shared, shared)
        for name, (_, fields) in CLASSES.items():
            self.assertLess(len(str(getattr(errors, name)(*[shared] * len(fields)))), 200, name)


if __name__ == "__main__":
    unittest.main()
