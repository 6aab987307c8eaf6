import unittest

from common import REFUSALS, Contrary
from paymill import errors
from paymill.errors import NoCut, NoName, NoNumber, NoPart, NoText, PayError, TooLong

UNDER_PAY_ERROR = (
    "NoAmount", "NoLine", "NoDays", "NoRule", "NoTelling", "NoStretch",
    "NoTable", "NoPot", "NoFold", "NoLeave", "NoDeed", "NoText",
)
MADE_OF_TEXT = UNDER_PAY_ERROR[:-1] + ("NoPart", "PayError")
BEARING = (
    (NoText, "at"), (NoName, "name"), (NoNumber, "number"), (TooLong, "many"), (NoCut, "last"),
)


class ErrorsTest(unittest.TestCase):
    def test_there_are_seventeen_and_the_one_above(self):
        own = [name for name, thing in vars(errors).items() if isinstance(thing, type)]
        self.assertEqual(sorted(own), sorted(REFUSALS + ("PayError",)))
        self.assertEqual(len(REFUSALS), 17)

    def test_each_is_defined_in_errors(self):
        for name in REFUSALS + ("PayError",):
            self.assertEqual(getattr(errors, name).__module__, "paymill.errors")

    def test_who_stands_right_under_whom(self):
        self.assertEqual(PayError.__bases__, (ValueError,))
        for name in UNDER_PAY_ERROR:
            self.assertEqual(getattr(errors, name).__bases__, (PayError,))
        self.assertEqual(NoPart.__bases__, (ZeroDivisionError,))
        self.assertEqual(NoName.__bases__, (KeyError,))
        self.assertEqual(NoNumber.__bases__, (IndexError,))
        self.assertEqual(TooLong.__bases__, (OverflowError,))
        self.assertEqual(NoCut.__bases__, (LookupError,))

    def test_those_of_other_kinds_are_no_pay_errors(self):
        for kind in (NoPart, NoName, NoNumber, TooLong, NoCut):
            self.assertFalse(issubclass(kind, PayError))

    def test_those_made_of_a_text_tell_it(self):
        for name in MADE_OF_TEXT:
            kind = getattr(errors, name)
            with self.assertRaises(kind) as caught:
                raise kind("so it is")
            self.assertEqual(str(caught.exception), "so it is")

    def test_those_that_bear_something_bear_just_it(self):
        things = (0, -3, 7, 10 ** 5000, None, True, "a", "", (1, 2), [3], {}, Contrary())
        for kind, name in BEARING:
            for thing in things:
                self.assertIs(getattr(kind(thing), name), thing)
                self.assertIs(getattr(kind(**{name: thing}), name), thing)

    def test_those_that_bear_something_can_be_written(self):
        for kind, _ in BEARING:
            for thing in (0, 10 ** 5000, Contrary()):
                self.assertIsInstance(str(kind(thing)), str)
                self.assertIsInstance(repr(kind(thing)), str)

    def test_those_that_bear_something_need_it(self):
        for kind, _ in BEARING:
            with self.assertRaises(TypeError):
                kind()

    def test_each_is_caught_by_its_kind(self):
        for kind, by in ((NoText, ValueError), (NoName, KeyError), (NoNumber, IndexError),
                         (TooLong, OverflowError), (NoCut, LookupError)):
            with self.assertRaises(by):
                raise kind(3)


if __name__ == "__main__":
    unittest.main()
