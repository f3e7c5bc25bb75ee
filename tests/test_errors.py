"""The classes of refusals, as the interface lists them."""

import unittest

from farcalls import errors
from helpers import Case

CLASSES = {
    "BadPlan": (ValueError, ("at", "word")),
    "BadArgs": (ValueError, ("asked",)),
    "BadText": (ValueError, ("row",)),
    "NoLetter": (ValueError, ("asked",)),
    "BadView": (ValueError, ("place",)),
    "NoAsk": (ValueError, ("row",)),
    "NoKind": (KeyError, ("kind",)),
    "NoName": (KeyError, ("name",)),
    "NoHouse": (IndexError, ("house",)),
    "NoRound": (RuntimeError, ("number",)),
    "Fallen": (RuntimeError, ("house",)),
    "NoWorld": (RuntimeError, ()),
    "NoWay": (LookupError, ("asked",)),
    "TooLong": (OverflowError, ("most",)),
}


class Errors(Case):
    def test_each_stands_straight_under_its_own(self):
        for name, (above, _) in CLASSES.items():
            with self.subTest(name):
                self.assertEqual(getattr(errors, name).__bases__, (above,))

    def test_each_is_defined_in_this_file(self):
        for name in CLASSES:
            self.assertEqual(getattr(errors, name).__module__, "farcalls.errors")

    def test_each_is_made_of_its_fields_in_order(self):
        things = (["x"], ("y", True))
        for name, (_, fields) in CLASSES.items():
            with self.subTest(name):
                error = getattr(errors, name)(*things[:len(fields)])
                for field, thing in zip(fields, things):
                    self.told(getattr(error, field), thing)

    def test_each_can_be_shown(self):
        for name, (_, fields) in CLASSES.items():
            self.assertIsInstance(str(getattr(errors, name)(*range(len(fields)))), str)


if __name__ == "__main__":
    unittest.main()
