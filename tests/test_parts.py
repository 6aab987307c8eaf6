import random
import unittest
from fractions import Fraction

from common import as_part, odd_things, parameters, refused, worth
from paymill import parts
from paymill.days import Days
from paymill.errors import NoPart
from paymill.parts import (
    NOUGHT, ONE, ceiling, figures, floor, greatest, is_amount, is_less, is_part, least, less,
    over, part, plus, summed, times,
)

GREAT = 3 ** 90
SOME = [
    NOUGHT, ONE, (-1, 1), (1, 2), (-1, 2), (3, 7), (-22, 7), (5, 1), (10 ** 6, 1),
    (-10 ** 6, 1), (999999, 1000), (GREAT, 2 ** 120), (-GREAT, 10 ** 35), (1, GREAT), (GREAT, 1),
]


class PartTest(unittest.TestCase):
    def test_nought_and_one(self):
        self.assertEqual(NOUGHT, (0, 1))
        self.assertEqual(ONE, (1, 1))

    def test_parts_are_parts(self):
        for one in SOME:
            self.assertIs(is_part(one), True)
            self.assertIs(is_amount(one), one[0] >= 0)

    def test_other_things_are_no_parts(self):
        for thing in odd_things() + [Days(7, (0,)), SOME]:
            self.assertIs(is_part(thing), False, repr(type(thing)))
            self.assertIs(is_amount(thing), False)

    def test_great_pairs_with_a_common_divisor_are_no_parts(self):
        self.assertIs(is_part((GREAT, GREAT * 2)), False)
        self.assertIs(is_part((GREAT * 2, GREAT)), False)
        self.assertIs(is_part((GREAT, GREAT + 1)), True)

    def test_part_of_any_two_whole_numbers(self):
        self.assertEqual(part(3), (3, 1))
        self.assertEqual(part(-3), (-3, 1))
        self.assertEqual(part(0, 5), NOUGHT)
        self.assertEqual(part(0, -5), NOUGHT)
        self.assertEqual(part(6, 4), (3, 2))
        self.assertEqual(part(-6, 4), (-3, 2))
        self.assertEqual(part(6, -4), (-3, 2))
        self.assertEqual(part(-6, -4), (3, 2))
        self.assertEqual(part(7, -1), (-7, 1))
        self.assertEqual(part(b=4, a=6), (3, 2))
        self.assertEqual(part(GREAT * 35, -GREAT * 49), (-5, 7))

    def test_no_part_by_nought(self):
        for a in (0, 1, -1, GREAT):
            refused(self, NoPart, part, a, 0)
        refused(self, NoPart, part, b=0, a=3)

    def test_reckoning_is_that_of_fractions(self):
        for one in SOME:
            for other in SOME:
                first, second = worth(one), worth(other)
                self.assertEqual(plus(one, other), as_part(first + second))
                self.assertEqual(less(one, other), as_part(first - second))
                self.assertEqual(times(one, other), as_part(first * second))
                self.assertIs(is_less(one, other), first < second)
                if other == NOUGHT:
                    refused(self, NoPart, over, one, other)
                else:
                    self.assertEqual(over(one, other), as_part(first / second))

    def test_what_is_reckoned_is_a_part(self):
        rng = random.Random(1)
        for _ in range(500):
            one = part(rng.randint(-40, 40), rng.randint(1, 40))
            other = part(rng.randint(-40, 40), rng.choice((-6, -1, 1, 5, 12)))
            told = [plus(one, other), less(one, other), times(one, other)]
            told = told + ([over(one, other)] if other[0] else [])
            for thing in told:
                self.assertIs(is_part(thing), True)

    def test_floor_and_ceiling(self):
        for one, low, high in (
            (NOUGHT, 0, 0), (ONE, 1, 1), ((-1, 1), -1, -1), ((7, 2), 3, 4), ((-7, 2), -4, -3),
            ((1, 3), 0, 1), ((-1, 3), -1, 0), ((GREAT, 1), GREAT, GREAT),
            ((GREAT * 2 + 1, 2), GREAT, GREAT + 1), ((-GREAT * 2 - 1, 2), -GREAT - 1, -GREAT),
        ):
            self.assertEqual(floor(one), low)
            self.assertEqual(ceiling(one), high)

    def test_summed(self):
        self.assertEqual(summed([]), NOUGHT)
        self.assertEqual(summed((), start=(2, 3)), (2, 3))
        self.assertEqual(summed([(1, 2), (1, 3), (1, 6)]), ONE)
        self.assertEqual(summed(((1, 2), (-1, 2)), start=(5, 7)), (5, 7))
        total = sum([worth(one) for one in SOME], Fraction(1, 9))
        self.assertEqual(summed(SOME, start=(1, 9)), as_part(total))

    def test_least_and_greatest_by_worth(self):
        row = [(1, 3), (-1, 2), (-2, 3), (2, 7), (1, 4)]
        for some in (row, tuple(row), row[::-1]):
            self.assertEqual(least(some), (-2, 3))
            self.assertEqual(greatest(some), (1, 3))
        self.assertEqual(least(SOME), min(SOME, key=worth))
        self.assertEqual(greatest(SOME), max(SOME, key=worth))
        self.assertEqual(least([(4, 9)]), (4, 9))
        self.assertEqual(greatest([(4, 9)], none=ONE), (4, 9))

    def test_least_and_greatest_of_none(self):
        for some in ((), []):
            self.assertIsNone(least(some))
            self.assertIsNone(greatest(some))
            self.assertEqual(least(some, none=NOUGHT), NOUGHT)
            self.assertEqual(greatest(some, none=(3, 2)), (3, 2))

    def test_rows_handed_in_are_not_changed(self):
        row = [(1, 2), (1, 3)]
        summed(row)
        least(row)
        greatest(row)
        self.assertEqual(row, [(1, 2), (1, 3)])

    def test_figures_of_numbers_however_great(self):
        for number in (0, 1, -1, 10 ** 18, -10 ** 18, 10 ** 64 - 1, 10 ** 64, -10 ** 64,
                       10 ** 128 + 5, GREAT ** 20, -GREAT ** 20):
            self.assertEqual(figures(number), str(number))
        self.assertEqual(figures(10 ** 6000), "1" + "0" * 6000)
        self.assertEqual(figures(-10 ** 6000 - 7), "-1" + "0" * 5999 + "7")

    def test_names_of_arguments(self):
        one_other = ["one", "other"]
        for name, told in (
            ("is_part", ["thing"]), ("is_amount", ["thing"]), ("part", ["a", "b=1"]),
            ("plus", one_other), ("less", one_other), ("times", one_other),
            ("over", one_other), ("is_less", one_other), ("floor", ["one"]),
            ("ceiling", ["one"]), ("summed", ["some", "*start=(0, 1)"]),
            ("least", ["some", "*none=None"]), ("greatest", ["some", "*none=None"]),
        ):
            self.assertEqual(parameters(getattr(parts, name)), told)
            self.assertEqual(getattr(parts, name).__module__, "paymill.parts")


if __name__ == "__main__":
    unittest.main()
