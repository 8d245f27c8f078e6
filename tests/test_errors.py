"""Errors: treeandtrip.errors and what [0.2] says of them."""

import inspect
import unittest

from treeandtrip import errors
from tests.samples import ODD

NAMES = """
    BadWeb BadWay Parted BadDays NoWay BadRow TooMany LastPlace BadOrder BadPlace BadMany BadTree NotLeast BadLot
    NotCluster BadTerms BadOffers BadHands BadMoment BadTells BadAsks Untold Lacks BadDay BadSends TooFew BadRun
    BadHouse TooDeep Short BadBook Unlike NothingBack NothingAgain BadText NoName Twice NotTwo BadNames Long Full
    NoWeb NoTerms NoHouse NoRun
""".split()


class Errors(unittest.TestCase):

    def test_all_are_there(self):
        found = [name for name, thing in vars(errors).items() if inspect.isclass(thing)]
        self.assertEqual(sorted(found), sorted(NAMES + ["Refused"]))
        self.assertEqual(len(NAMES), 45)

    def test_bases(self):
        self.assertEqual(errors.Refused.__bases__, (ValueError,))
        for name in NAMES:
            self.assertEqual(getattr(errors, name).__bases__, (errors.Refused,), name)

    def test_defined_here(self):
        for name in NAMES + ["Refused"]:
            self.assertEqual(getattr(errors, name).__module__, "treeandtrip.errors")
            self.assertEqual(getattr(errors, name).__name__, name)

    def test_what_is_kept_as_it_is(self):
        for name in NAMES + ["Refused"]:
            for thing in ODD + [5, {"a": 1}, "word"]:
                self.assertIs(getattr(errors, name)(thing).what, thing)

    def test_one_argument(self):
        for name in NAMES + ["Refused"]:
            with self.assertRaises(TypeError):
                getattr(errors, name)()
            with self.assertRaises(TypeError):
                getattr(errors, name)(1, 2)

    def test_each_is_caught_as_itself_and_as_refused(self):
        for name in NAMES:
            for caught in (getattr(errors, name), errors.Refused, ValueError):
                with self.assertRaises(caught):
                    raise getattr(errors, name)(7)
            for other in NAMES:
                if other != name:
                    self.assertFalse(issubclass(getattr(errors, name), getattr(errors, other)))


if __name__ == "__main__":
    unittest.main()
