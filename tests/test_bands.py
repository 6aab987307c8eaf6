import random
import unittest
from fractions import Fraction

from common import Contrary, as_part, nested, odd_things, parameters, refused, worth
from paymill import bands as bands_file
from paymill.bands import (
    alike_to, behind, beside, is_bands, least_left, least_taken, left, normal_bands, taken, taken_line,
)
from paymill.errors import NoAmount, NoTable
from paymill.lines import is_line, y_at
from paymill.parts import NOUGHT, ONE, less, part, plus

TENTH, FIFTH, HALF = part(1, 10), part(1, 5), part(1, 2)
THREE = ((NOUGHT, NOUGHT), (part(100), TENTH), (part(200), HALF))
ALL = ((NOUGHT, ONE),)
NONE = ((NOUGHT, NOUGHT),)
TINY = Fraction(1, 10 ** 9)
CALLS = (
    (normal_bands, ()), (taken, (ONE,)), (left, (ONE,)), (least_left, (ONE,)), (least_taken, (ONE,)),
    (taken_line, ()),
)


def many_bands(many):
    return tuple([(part(10 * at), part(at, 1000)) for at in range(many)])


def slow_taken(bands, total):
    """What is taken of a sum, in fractions, by the words of 10.1."""
    found = Fraction(0)
    for at, (begin, rate) in enumerate(bands):
        if total > worth(begin):
            end = min(total, worth(bands[at + 1][0])) if at + 1 < len(bands) else total
            found += worth(rate) * (end - worth(begin))
    return found


def random_bands(rng, most=6, rates=(0, 0, 1, 2, 3, 5, 9, 10)):
    many = rng.randint(1, most)
    froms = {Fraction(0)}
    while len(froms) < many:
        froms.add(Fraction(rng.randint(1, 90), rng.randint(1, 3)))
    return tuple([(as_part(begin), part(rng.choice(rates), 10)) for begin in sorted(froms)])


def random_sum(rng, bands=NONE):
    return rng.choice((Fraction(0), Fraction(rng.randint(0, 400), rng.randint(1, 4)), Fraction(10 ** 20),
                       worth(rng.choice(bands)[0])))


def is_normal(bands):
    return all([ahead[1] != behind_it[1] for ahead, behind_it in zip(bands, bands[1:])])


class IsBandsTest(unittest.TestCase):
    def test_bands(self):
        for thing in (THREE, ALL, NONE, many_bands(20), many_bands(21), many_bands(500),
                      ((NOUGHT, HALF), (ONE, HALF)), ((NOUGHT, ONE), (part(1, 10 ** 30), NOUGHT))):
            self.assertIs(is_bands(thing), True)
        self.assertIs(is_bands(thing=THREE), True)

    def test_other_things(self):
        for thing in odd_things() + [
            list(THREE), ([NOUGHT, ONE],), (THREE,), ((ONE, HALF),), ((NOUGHT, (-1, 10)),), ((NOUGHT, (11, 10)),),
            ((NOUGHT, HALF), (NOUGHT, ONE)), THREE + THREE[-1:], THREE[::-1], ((NOUGHT, HALF, HALF),),
            ((NOUGHT, HALF), ((-1, 1), ONE)), ((NOUGHT, (2, 4)),), ((NOUGHT, True),), (((0, 2), ONE),),
            ((NOUGHT, HALF), ((1, 2), HALF), ((1, 3), ONE)), (NOUGHT, HALF), ((0, 0),), ((NOUGHT, 0),),
            ((NOUGHT, Contrary()),), ((Contrary(), HALF),), (Contrary(), (NOUGHT, HALF)),
            ((NOUGHT, HALF), Contrary()), nested(THREE, 17, tuple), {NOUGHT: HALF}, ((NOUGHT, ONE), None),
        ]:
            self.assertIs(is_bands(thing), False, repr(thing))

    def test_no_table_ahead_of_all(self):
        for thing in odd_things() + [list(THREE), ((ONE, HALF),), ((NOUGHT, (11, 10)),)]:
            for call, more in CALLS:
                refused(self, NoTable, call, thing, *more)
            for call in (behind, beside, alike_to):
                refused(self, NoTable, call, thing, THREE)
                refused(self, NoTable, call, THREE, thing)
                refused(self, NoTable, call, thing, thing)
            refused(self, NoTable, taken, thing, (-5, 1))
            refused(self, NoTable, taken, thing, ONE, ahead=(-5, 1))
            refused(self, NoTable, left, thing, (-5, 1))


class TakenTest(unittest.TestCase):
    def test_by_hand(self):
        for total, took in ((0, 0), (100, 0), (150, 5), (200, 10), (300, 60)):
            self.assertEqual(taken(THREE, part(total)), part(took))
            self.assertEqual(left(THREE, part(total)), part(total - took))
            self.assertEqual(y_at(taken_line(THREE), part(total)), part(took))
        self.assertEqual(taken(THREE, part(100), ahead=part(150)), part(30))
        self.assertEqual(taken(THREE, part(-100), ahead=part(300)), part(-50))
        self.assertEqual(taken(THREE, part(-150), ahead=part(150)), part(-5))
        self.assertEqual(taken(ahead=part(100), amount=part(50), bands=THREE), part(5))
        self.assertEqual((taken(ALL, part(7)), left(ALL, part(7))), (part(7), NOUGHT))
        self.assertEqual((taken(NONE, part(7)), left(NONE, part(7))), (NOUGHT, part(7)))

    def test_going_through_them(self):
        rng = random.Random(101)
        for _ in range(300):
            bands = random_bands(rng)
            total, other = random_sum(rng, bands), random_sum(rng, bands)
            self.assertEqual(taken(bands, as_part(total)), as_part(slow_taken(bands, total)))
            self.assertEqual(left(bands, as_part(total)), as_part(total - slow_taken(bands, total)))
            gap = slow_taken(bands, other) - slow_taken(bands, total)
            self.assertEqual(taken(bands, as_part(other - total), ahead=as_part(total)), as_part(gap))

    def test_hangs_on_the_sum_alone(self):
        rng = random.Random(102)
        for _ in range(100):
            bands = random_bands(rng)
            ahead, all_taken = NOUGHT, NOUGHT
            for _ in range(6):
                amount = as_part(random_sum(rng, bands) - worth(ahead))
                all_taken = plus(all_taken, taken(bands, amount, ahead=ahead))
                ahead = plus(ahead, amount)
            self.assertEqual(all_taken, taken(bands, ahead))

    def test_no_amount(self):
        for ahead, amount in ((0, -1), (5, -6), (-1, 5), (-1, 1), (-5, 2), (-1, 0)):
            refused(self, NoAmount, taken, THREE, part(amount), ahead=part(ahead))
        refused(self, NoAmount, taken, THREE, (-1, 1000))
        for total in ((-1, 1), (-1, 1000)):
            refused(self, NoAmount, left, THREE, total)
        self.assertEqual(taken(THREE, part(-5), ahead=part(5)), NOUGHT)

    def test_line(self):
        rng = random.Random(103)
        for _ in range(100):
            bands = random_bands(rng)
            line = taken_line(bands)
            self.assertIs(is_line(line), True)
            for _ in range(5):
                total = random_sum(rng, bands)
                self.assertEqual(y_at(line, as_part(total)), as_part(slow_taken(bands, total)))
        self.assertEqual(taken_line(bands=((NOUGHT, HALF), (ONE, HALF))), (((NOUGHT, NOUGHT),), HALF))


class NormalTest(unittest.TestCase):
    def test_by_hand(self):
        for bands, normal in (
            (THREE, THREE), (ALL, ALL), (NONE, NONE), (((NOUGHT, HALF), (ONE, HALF)), ((NOUGHT, HALF),)),
            (((NOUGHT, HALF), (ONE, HALF), (part(2), ONE), (part(3), ONE), (part(4), HALF)),
             ((NOUGHT, HALF), (part(2), ONE), (part(4), HALF))),
        ):
            self.assertEqual(normal_bands(bands), normal)
        self.assertEqual(normal_bands(bands=many_bands(21)), many_bands(21))

    def test_normal_ones_are_alike_where_they_take_alike(self):
        rng = random.Random(104)
        some = [random_bands(rng, 3, (0, 5)) for _ in range(60)]
        sums = sorted({worth(begin) + gap for bands in some for begin, _ in bands for gap in (0, TINY)})
        told = [(normal_bands(bands), [slow_taken(bands, total) for total in sums]) for bands in some]
        for normal, takings in told:
            self.assertTrue(is_bands(normal) and is_normal(normal))
            for other, other_takings in told:
                self.assertIs(normal == other, takings == other_takings)


class LeastTest(unittest.TestCase):
    def test_by_hand(self):
        for goal, total in ((-5, 0), (0, 0), (50, 50), (100, 100), (145, 150), (190, 200), (240, 300)):
            self.assertEqual(least_left(THREE, part(goal)), part(total))
        for goal, total in ((-5, 0), (0, 0), (5, 150), (10, 200), (60, 300)):
            self.assertEqual(least_taken(THREE, part(goal)), part(total))
        self.assertEqual(least_taken(THREE, part(1, 10)), part(101))
        top = THREE + ((part(300), ONE),)
        self.assertEqual(least_left(goal=part(240), bands=top), part(300))
        self.assertIsNone(least_left(top, part(240001, 1000)))
        self.assertEqual(least_left(top, part(239999, 1000)), part(299998, 1000))
        for goal in (NOUGHT, (-1, 1)):
            self.assertEqual((least_left(ALL, goal), least_taken(NONE, goal)), (NOUGHT, NOUGHT))
        self.assertEqual((least_left(ALL, (1, 1000)), least_taken(goal=(1, 1000), bands=NONE)), (None, None))
        capped = ((NOUGHT, HALF), (part(100), NOUGHT))
        self.assertEqual([least_taken(capped, part(goal)) for goal in (49, 50, 51)], [part(98), part(100), None])

    def test_least_of_all(self):
        rng = random.Random(105)
        for _ in range(300):
            bands = random_bands(rng)
            for call, reckon in ((least_taken, lambda total: slow_taken(bands, total)),
                                 (least_left, lambda total: total - slow_taken(bands, total))):
                at = random_sum(rng, bands)
                goal = reckon(at) + rng.choice((0, TINY, -TINY, rng.randint(-9, 9)))
                total = call(bands, as_part(goal))
                if total is None:
                    self.assertLess(reckon(Fraction(10 ** 40)), goal)
                    continue
                self.assertGreaterEqual(worth(total), 0)
                self.assertGreaterEqual(reckon(worth(total)), goal)
                if goal <= 0:
                    self.assertEqual(total, NOUGHT)
                else:
                    self.assertLess(reckon(worth(total) - TINY / 10 ** 9), goal)


class TogetherTest(unittest.TestCase):
    def test_behind_by_hand(self):
        self.assertEqual(behind(((NOUGHT, FIFTH),), ((NOUGHT, NOUGHT), (part(80), HALF))),
                         ((NOUGHT, FIFTH), (part(100), part(6, 10))))
        self.assertEqual(behind(ALL, THREE), ALL)
        self.assertEqual(behind(THREE, ALL), ALL)
        self.assertEqual(behind(NONE, THREE), THREE)
        self.assertEqual(behind(second=NONE, first=THREE), THREE)
        # What is behind begins within a band of which nothing is left.
        first = ((NOUGHT, NOUGHT), (part(10), ONE), (part(20), NOUGHT))
        self.assertEqual(behind(first, ((NOUGHT, NOUGHT), (part(10), HALF))),
                         ((NOUGHT, NOUGHT), (part(10), ONE), (part(20), HALF)))

    def test_behind_one_after_the_other(self):
        rng = random.Random(106)
        for _ in range(200):
            first, second = random_bands(rng), random_bands(rng)
            told = behind(first, second)
            self.assertTrue(is_bands(told) and is_normal(told))
            sums = [worth(begin) + gap for begin, _ in told + first for gap in (0, 1, TINY)]
            for total in [*sums, random_sum(rng), Fraction(10 ** 30)]:
                one = slow_taken(first, total)
                self.assertEqual(slow_taken(told, total), one + slow_taken(second, total - one))

    def test_beside_by_hand(self):
        self.assertEqual(beside(THREE, ((NOUGHT, TENTH), (part(150), HALF))), (
            (NOUGHT, TENTH), (part(100), FIFTH), (part(150), part(6, 10)), (part(200), ONE)))
        self.assertEqual(beside(second=NONE, first=THREE), THREE)
        self.assertEqual(beside(((NOUGHT, HALF), (ONE, NOUGHT)), ((NOUGHT, NOUGHT), (ONE, HALF))),
                         ((NOUGHT, HALF),))
        for first, second in ((ALL, THREE), (THREE, ALL), (THREE, ((NOUGHT, NOUGHT), (part(999), (501, 1000)))),
                              (ALL, ((NOUGHT, NOUGHT), (part(5), TENTH), (part(6), NOUGHT))), (ALL, ALL)):
            refused(self, NoTable, beside, first, second)

    def test_beside_both(self):
        rng = random.Random(107)
        refused_ones = 0
        for _ in range(300):
            first, second = random_bands(rng), random_bands(rng, rates=(0, 1, 2, 5))
            froms = sorted([worth(begin) for begin, _ in first + second])
            rates = [slow_taken(first, begin + TINY) - slow_taken(first, begin)
                     + slow_taken(second, begin + TINY) - slow_taken(second, begin) for begin in froms]
            if max(rates) > TINY:
                refused_ones += 1
                refused(self, NoTable, beside, first, second)
                continue
            told = beside(first, second)
            self.assertTrue(is_bands(told) and is_normal(told))
            for total in [begin + gap for begin in froms for gap in (0, 1, TINY)] + [random_sum(rng)]:
                self.assertEqual(slow_taken(told, total), slow_taken(first, total) + slow_taken(second, total))
        self.assertTrue(30 < refused_ones < 270)

    def test_told_bands_may_be_more_than_twenty(self):
        first, second = many_bands(20), tuple([(part(at * 10 + (3 if at else 0)), part(at, 900))
                                               for at in range(20)])
        self.assertEqual(len(beside(first, second)), 39)
        self.assertGreater(len(behind(first, second)), 30)
        again = behind(beside(first, second), behind(first, second))
        self.assertEqual(left(again, ONE), left(behind(first, second), left(beside(first, second), ONE)))


class AlikeTest(unittest.TestCase):
    def test_by_hand(self):
        other = THREE[:2] + ((part(180), HALF),)
        for one, two, total in (
            (THREE, THREE, None), (THREE, other, part(180)), (ALL, NONE, NOUGHT), (THREE, THREE[:2], part(200)),
            (THREE, NONE, part(100)), (((NOUGHT, HALF), (ONE, HALF)), ((NOUGHT, HALF),), None),
            (((NOUGHT, HALF), (ONE, ONE)), ((NOUGHT, TENTH), (ONE, ONE)), NOUGHT),
            (((NOUGHT, HALF), (ONE, ONE), (part(2), HALF)), ((NOUGHT, HALF),), ONE),
        ):
            self.assertEqual(alike_to(one, two), total)
            self.assertEqual(alike_to(other=one, one=two), total)

    def test_they_are_and_part(self):
        rng = random.Random(108)
        met = {True: 0, False: 0}
        for _ in range(400):
            one = random_bands(rng, 4, (0, 5))
            other = tuple([(begin, rng.choice((rate, rate, rate, HALF))) for begin, rate in one])
            total = alike_to(one, other)
            met[total is None] += 1
            sums = [worth(begin) + gap for begin, _ in one + other for gap in (0, TINY)] + [Fraction(10 ** 9)]
            for each in sums:
                if total is None or each <= worth(total):
                    self.assertEqual(slow_taken(one, each), slow_taken(other, each))
            if total is not None:
                each = worth(total) + TINY
                self.assertNotEqual(slow_taken(one, each), slow_taken(other, each))
        self.assertGreater(min(met.values()), 50)


class InterfaceTest(unittest.TestCase):
    def test_names_of_arguments(self):
        for name, told in (
            ("is_bands", ["thing"]), ("normal_bands", ["bands"]), ("taken", ["bands", "amount", "*ahead=(0, 1)"]),
            ("left", ["bands", "total"]), ("least_left", ["bands", "goal"]), ("least_taken", ["bands", "goal"]),
            ("behind", ["first", "second"]), ("beside", ["first", "second"]), ("alike_to", ["one", "other"]),
            ("taken_line", ["bands"]),
        ):
            self.assertEqual(parameters(getattr(bands_file, name)), told)
            self.assertEqual(getattr(bands_file, name).__module__, "paymill.bands")
        self.assertEqual(less(ONE, HALF), HALF)


if __name__ == "__main__":
    unittest.main()
