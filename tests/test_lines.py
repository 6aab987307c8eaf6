import random
import unittest
from fractions import Fraction

from common import (
    as_part, odd_things, parameters, random_knots, random_part, refused, slow_y, worth,
)
from paymill import lines
from paymill.days import Days
from paymill.errors import NoAmount, NoLine
from paymill.lines import (
    first_at, flat, is_line, least_line, line_of, most_line, never_falls, put_into, sum_line,
    times_line, unlike_at, y_at,
)
from paymill.parts import NOUGHT, ONE, part

GREAT = 10 ** 40 + 7


def whole(*pairs):
    """Knots of pairs of whole numbers."""
    return tuple([((x, 1), (y, 1)) for x, y in pairs])


# Twelve an hour for eight hours, behind them eighteen.
OVERTIME = (whole((0, 0), (8, 96)), (18, 1))
# Up to (2, 6), down to (4, 2), level to (7, 2), down for ever.
HILL = (whole((0, 0), (2, 6), (4, 2), (7, 2)), (-1, 2))
STEEP = (((NOUGHT, (-GREAT, 3)), ((1, GREAT), (GREAT, 1)), ((GREAT, 1), (-5, 7))), (GREAT, 2))


def some_lines(rng, many):
    """Random lines, normal, and some that are told."""
    made = [flat(random_part(rng)) for _ in range(2)]
    while len(made) < many:
        made.append(line_of(random_knots(rng, rng.randint(1, 6)), random_part(rng)))
    return made


def watched(*some):
    """Many x: all knots, what is between and beside them, and far ones."""
    xs = {Fraction(0), Fraction(1, 7), Fraction(10 ** 30), Fraction(10 ** 45, 3)}
    for line in some:
        for x, _ in line[0]:
            xs.add(worth(x))
    rising = sorted(xs)
    for x, behind in zip(rising, rising[1:]):
        xs.add((x + behind) / 2)
        xs.add((x * 5 + behind) / 6)
        xs.add(x + min(behind - x, Fraction(1)) / 1000)
    return sorted(xs)


class IsLineTest(unittest.TestCase):
    def test_lines_are_lines(self):
        for line in (OVERTIME, HILL, STEEP, flat(NOUGHT), flat((-3, 2)), (whole((0, 5)), (1, 3))):
            self.assertIs(is_line(line), True)

    def test_other_things_are_none(self):
        for thing in odd_things() + [Days(7, (0,)), [OVERTIME], (OVERTIME,)]:
            self.assertIs(is_line(thing), False)
            for other in (NOUGHT, OVERTIME[0], thing):
                self.assertIs(is_line((thing, other)), False)
            self.assertIs(is_line((OVERTIME[0], thing)), False)
            self.assertIs(is_line(((thing,), ONE)), False)
            self.assertIs(is_line((((thing, NOUGHT),), ONE)), False)
            self.assertIs(is_line((((NOUGHT, thing),), ONE)), False)
            self.assertIs(is_line((OVERTIME[0] + (thing,), ONE)), False)

    def test_lines_are_tuples_through(self):
        knots, slope = OVERTIME
        self.assertIs(is_line([knots, slope]), False)
        self.assertIs(is_line((list(knots), slope)), False)
        self.assertIs(is_line((knots, list(slope))), False)
        self.assertIs(is_line((tuple([list(knot) for knot in knots]), slope)), False)
        listed = tuple([(list(x), list(y)) for x, y in knots])
        self.assertIs(is_line((listed, slope)), False)
        self.assertIs(is_line((knots, slope, slope)), False)

    def test_the_first_x_is_nought_and_each_next_greater(self):
        self.assertIs(is_line(((), ONE)), False)
        self.assertIs(is_line((whole((1, 0)), ONE)), False)
        self.assertIs(is_line((whole((-1, 0), (0, 1)), (3, 1))), False)
        self.assertIs(is_line((whole((0, 0), (2, 5), (2, 6)), ONE)), False)
        self.assertIs(is_line((whole((0, 0), (3, 5), (2, 6)), ONE)), False)
        self.assertIs(is_line((whole((0, 0), (0, 0)), ONE)), False)

    def test_one_that_goes_straight_on_is_none(self):
        self.assertIs(is_line((whole((0, 0), (2, 4), (3, 6)), ONE)), False)
        self.assertIs(is_line((whole((0, 0), (2, 4), (3, 5)), ONE)), False)
        self.assertIs(is_line((whole((0, 5), (2, 5)), NOUGHT)), False)
        self.assertIs(is_line((whole((0, 5), (2, 5)), ONE)), True)
        self.assertIs(is_line((whole((0, 0), (GREAT, GREAT * 3)), (3, 1))), False)
        self.assertIs(is_line((whole((0, 0), (GREAT, GREAT * 3 + 1)), (3, 1))), True)

    def test_however_many_knots(self):
        knots = whole(*[(at, at % 2) for at in range(5000)])
        self.assertIs(is_line((knots, NOUGHT)), True)
        self.assertIs(is_line((knots, (-1, 1))), True)
        self.assertIs(is_line((knots, ONE)), False)


class LineOfTest(unittest.TestCase):
    def test_normal_ones_stand(self):
        for line in (OVERTIME, HILL, STEEP):
            self.assertEqual(line_of(line[0], line[1]), line)
            self.assertEqual(line_of(list(line[0]), slope=line[1]), line)

    def test_where_it_goes_straight_on_is_left_out(self):
        knots = whole((0, 0), (1, 12), (4, 48), (8, 96), (9, 114), (20, 312))
        self.assertEqual(line_of(knots, (18, 1)), OVERTIME)
        self.assertEqual(line_of(list(knots), (18, 1)), OVERTIME)
        self.assertEqual(line_of(whole((0, 3), (1, 3), (2, 3)), NOUGHT), flat((3, 1)))
        self.assertEqual(line_of(whole((0, 3)), NOUGHT), flat((3, 1)))

    def test_refusals(self):
        refused(self, NoLine, line_of, (), ONE)
        refused(self, NoLine, line_of, [], ONE)
        refused(self, NoLine, line_of, whole((1, 0)), ONE)
        refused(self, NoLine, line_of, whole((-1, 0), (0, 0)), ONE)
        refused(self, NoLine, line_of, whole((0, 0), (3, 1), (3, 2)), ONE)
        refused(self, NoLine, line_of, whole((0, 0), (0, 0)), ONE)
        refused(self, NoLine, line_of, whole((0, 0), (3, 1), (2, 2)), slope=ONE)

    def test_what_is_handed_in_is_not_changed_nor_kept(self):
        knots = list(whole((0, 0), (1, 1), (2, 2)))
        told = line_of(knots, (5, 1))
        self.assertEqual(knots, list(whole((0, 0), (1, 1), (2, 2))))
        knots[0] = None
        knots.pop()
        self.assertEqual(told, (whole((0, 0), (2, 2)), (5, 1)))

    def test_alike_just_where_the_heights_are(self):
        rng = random.Random(2)
        for _ in range(150):
            knots = random_knots(rng, rng.randint(1, 5), 0, 2)
            slope = part(rng.randint(0, 1))
            line = line_of(knots, slope)
            self.assertIs(is_line(line), True)
            more = [(as_part(x), as_part(slow_y((knots, slope), x))) for x in watched(line)]
            self.assertEqual(line_of(more, slope), line)
            for x in watched((knots, slope)):
                self.assertEqual(slow_y(line, x), slow_y((knots, slope), x))


class HeightTest(unittest.TestCase):
    def test_at_knots_between_and_behind(self):
        for x, y in ((NOUGHT, NOUGHT), (ONE, (12, 1)), ((1, 3), (4, 1)), ((8, 1), (96, 1)),
                     ((17, 2), (105, 1)), ((10, 1), (132, 1)), ((GREAT, 1), (GREAT * 18 - 48, 1))):
            self.assertEqual(y_at(OVERTIME, x), y)
            self.assertEqual(y_at(x=x, line=OVERTIME), y)
        self.assertEqual(y_at(HILL, (9, 1)), ONE)
        self.assertEqual(y_at(HILL, (13, 1)), (-1, 1))

    def test_flat(self):
        self.assertEqual(flat((3, 2)), (((NOUGHT, (3, 2)),), NOUGHT))
        for x in (NOUGHT, ONE, (GREAT, 3)):
            self.assertEqual(y_at(flat((-3, 2)), x), (-3, 2))

    def test_slow_one_tells_alike(self):
        rng = random.Random(3)
        for line in some_lines(rng, 60) + [OVERTIME, HILL, STEEP]:
            for x in watched(line):
                self.assertEqual(y_at(line, as_part(x)), as_part(slow_y(line, x)))

    def test_no_amount_below_nought(self):
        for x in ((-1, 1), (-1, GREAT), (-GREAT, 1)):
            refused(self, NoAmount, y_at, OVERTIME, x)


class ReckonedLinesTest(unittest.TestCase):
    def check(self, told, wanted, some):
        """Is it a line, with the wanted heights at many x?"""
        self.assertIs(is_line(told), True)
        for x in watched(told, *some):
            self.assertEqual(slow_y(told, x), wanted(x))

    def test_of_two(self):
        rng = random.Random(4)
        some = some_lines(rng, 24) + [OVERTIME, HILL, STEEP]
        for one in some:
            for other in some:
                pair = (one, other)
                self.check(sum_line(one, other), lambda x: slow_y(one, x) + slow_y(other, x), pair)
                self.check(most_line(one, other),
                           lambda x: max(slow_y(one, x), slow_y(other, x)), pair)
                self.check(least_line(one, other),
                           lambda x: min(slow_y(one, x), slow_y(other, x)), pair)

    def test_small_ones_that_meet_at_knots(self):
        rng = random.Random(5)
        for _ in range(600):
            one, other = [line_of(whole((0, rng.randint(0, 2)), (1, rng.randint(0, 2)),
                                        (3, rng.randint(0, 2))), (rng.randint(-1, 1), 1))
                          for _ in range(2)]
            pair = (one, other)
            self.check(most_line(one, other), lambda x: max(slow_y(one, x), slow_y(other, x)), pair)
            self.check(least_line(one, other),
                       lambda x: min(slow_y(one, x), slow_y(other, x)), pair)

    def test_times_any_part(self):
        rng = random.Random(6)
        for line in some_lines(rng, 20) + [OVERTIME, HILL, STEEP]:
            for by in (NOUGHT, ONE, (-1, 1), (-7, 3), (1, GREAT), (GREAT, 1)):
                self.check(times_line(line, by), lambda x: slow_y(line, x) * worth(by), (line,))
            self.assertEqual(times_line(line, NOUGHT), flat(NOUGHT))
            self.assertEqual(times_line(by=ONE, line=line), line)

    def test_told_ones(self):
        self.assertEqual(sum_line(OVERTIME, times_line(OVERTIME, (-1, 1))), flat(NOUGHT))
        self.assertEqual(sum_line(OVERTIME, flat((4, 1))), (whole((0, 4), (8, 100)), (18, 1)))
        rising, falling = (whole((0, 0)), ONE), (whole((0, 6)), (-2, 1))
        self.assertEqual(most_line(rising, falling), (whole((0, 6), (2, 2)), ONE))
        self.assertEqual(least_line(rising, falling), (whole((0, 0), (2, 2)), (-2, 1)))
        # They meet at one x, a knot of both, and don't change places there.
        tent, level = (whole((0, 0), (3, 3)), (-1, 1)), flat((3, 1))
        self.assertEqual(most_line(tent, level), level)
        self.assertEqual(least_line(tent, level), tent)
        # They meet at nought alone.
        self.assertEqual(most_line(rising, (whole((0, 0)), (2, 1))), (whole((0, 0)), (2, 1)))
        self.assertEqual(least_line(rising, (whole((0, 0)), (2, 1))), rising)
        self.assertEqual(most_line(HILL, HILL), HILL)
        self.assertEqual(least_line(HILL, HILL), HILL)

    def test_with_sixty_knots_and_told_ones_again(self):
        zigzag = (whole(*[(at, at % 2) for at in range(60)]), NOUGHT)
        zagzig = (whole(*[(at, 1 - at % 2) for at in range(60)]), NOUGHT)
        self.assertIs(is_line(zigzag), True)
        told = most_line(zigzag, zagzig)
        self.assertEqual(len(told[0]), 119)
        self.assertEqual(told[0][:3], (whole((0, 1)) + (((1, 2), (1, 2)),) + whole((1, 1))))
        self.check(sum_line(told, least_line(zigzag, zagzig)), lambda x: 1, (zigzag, zagzig))
        self.assertEqual(sum_line(zigzag, zagzig), flat(ONE))
        many = sum_line(told, times_line(zigzag, (GREAT, 3)))
        self.check(many, lambda x: slow_y(told, x) + slow_y(zigzag, x) * Fraction(GREAT, 3), (told, zigzag))

    def test_put_into(self):
        rng = random.Random(7)
        inners = [flat(NOUGHT), OVERTIME, flat((9, 1)), (whole((0, 3), (2, 0)), NOUGHT),
                  (whole((0, 30), (5, 0), (9, 12), (12, 0)), (5, 2))]
        while len(inners) < 40:
            slope = part(rng.randint(0, 5), rng.randint(1, 3))
            inners.append(line_of(random_knots(rng, rng.randint(1, 6), 0, 60), slope))
        for outer in some_lines(rng, 12) + [OVERTIME, HILL, STEEP]:
            for inner in inners:
                told = put_into(outer, inner)
                self.check(told, lambda x: slow_y(outer, slow_y(inner, x)), (inner,))

    def test_put_into_told_ones(self):
        self.assertEqual(put_into(HILL, flat((3, 1))), flat((4, 1)))
        self.assertEqual(put_into(OVERTIME, flat(NOUGHT)), flat(NOUGHT))
        self.assertEqual(put_into(inner=(whole((0, 0)), ONE), outer=HILL), HILL)
        # The inner one only touches nought.
        dip = (whole((0, 2), (2, 0)), ONE)
        self.assertEqual(put_into((whole((0, 0)), (3, 1)), dip), times_line(dip, (3, 1)))

    def test_no_inner_one_below_nought(self):
        for inner in (flat((-1, GREAT)), (whole((0, 5)), (-1, GREAT)),
                      (whole((0, 1), (2, -1), (3, 4)), ONE), (whole((0, -1)), (2, 1)), HILL):
            refused(self, NoLine, put_into, OVERTIME, inner)
            refused(self, NoLine, put_into, flat(ONE), inner)


class TellingTest(unittest.TestCase):
    def check_first(self, line, goal, begin):
        told = first_at(line, goal, begin=begin)
        start, wanted = worth(begin), worth(goal)
        end = None if told is None else worth(told)
        if end is not None:
            self.assertGreaterEqual(end, start)
            self.assertGreaterEqual(slow_y(line, end), wanted)
        for x in watched(line, flat(ONE)) + [start]:
            if x >= start and (end is None or x < end):
                self.assertLess(slow_y(line, x), wanted)
        if end is not None and end > start:
            # It is no less just there: a line has no leaps.
            self.assertEqual(slow_y(line, end), wanted)

    def test_first_at(self):
        rng = random.Random(8)
        for line in some_lines(rng, 60) + [OVERTIME, HILL, STEEP]:
            goals = [random_part(rng) for _ in range(5)] + [y for _, y in line[0]] + [(GREAT, 1)]
            begins = [as_part(x) for x in watched(line)[::3]] + [(GREAT, 1), NOUGHT]
            for goal in goals:
                for begin in begins:
                    self.check_first(line, goal, begin)

    def test_first_at_told_ones(self):
        self.assertEqual(first_at(OVERTIME, (96, 1)), (8, 1))
        self.assertEqual(first_at(OVERTIME, (105, 1)), (17, 2))
        self.assertEqual(first_at(OVERTIME, (-1, 1)), NOUGHT)
        self.assertEqual(first_at(goal=(5, 1), line=OVERTIME, begin=(3, 1)), (3, 1))
        self.assertEqual(first_at(HILL, (6, 1)), (2, 1))
        self.assertIsNone(first_at(HILL, (6, 1), begin=(201, 100)))
        self.assertIsNone(first_at(HILL, (7, 1)))
        self.assertEqual(first_at(HILL, (2, 1), begin=(2, 1)), (2, 1))
        self.assertEqual(first_at(HILL, (2, 1), begin=(7, 1)), (7, 1))
        self.assertIsNone(first_at(HILL, (2, 1), begin=(8, 1)))
        self.assertIsNone(first_at(flat((3, 1)), (4, 1)))
        self.assertEqual(first_at(flat((3, 1)), (3, 1), begin=(GREAT, 7)), (GREAT, 7))

    def test_first_at_no_begin_below_nought(self):
        refused(self, NoAmount, first_at, OVERTIME, ONE, begin=(-1, GREAT))
        refused(self, NoAmount, first_at, flat(ONE), (5, 1), begin=(-GREAT, 1))

    def test_never_falls(self):
        for line, told in (
            (OVERTIME, True), (HILL, False), (flat((-3, 1)), True),
            ((whole((0, 0), (1, 2), (2, 2)), ONE), True),
            ((whole((0, 0), (1, 2), (2, 2)), (-1, GREAT)), False),
            ((whole((0, 5), (1, 4)), ONE), False), ((whole((0, -5)), ONE), True),
            ((whole((0, -5)), (-1, 1)), False),
            ((whole((0, 0), (1, 2), (2, 1), (3, 3)), (9, 1)), False),
        ):
            self.assertIs(never_falls(line), told)

    def test_unlike_at_by_its_words(self):
        rng = random.Random(9)
        some = some_lines(rng, 20) + [OVERTIME, HILL, STEEP]
        for one in some:
            for other in some + [sum_line(one, flat((1, 9))), times_line(one, ONE)]:
                xs = sorted({worth(x) for x, _ in one[0] + other[0]})
                xs.append(xs[-1] + 1)
                unlike = [x for x in xs if slow_y(one, x) != slow_y(other, x)]
                wanted = as_part(unlike[0]) if unlike else None
                self.assertEqual(unlike_at(one, other), wanted)
                self.assertEqual(wanted is None, one == other)

    def test_unlike_at_told_ones(self):
        self.assertIsNone(unlike_at(OVERTIME, OVERTIME))
        self.assertEqual(unlike_at(OVERTIME, flat(NOUGHT)), (8, 1))
        self.assertEqual(unlike_at((whole((0, 0), (8, 96)), (19, 1)), OVERTIME), (9, 1))
        self.assertEqual(unlike_at((whole((0, 0)), (12, 1)), OVERTIME), (9, 1))
        self.assertEqual(unlike_at(flat(NOUGHT), flat(ONE)), NOUGHT)
        self.assertEqual(unlike_at((whole((0, 0)), ONE), flat(NOUGHT)), ONE)

    def test_names_of_arguments(self):
        one_other = ["one", "other"]
        for name, told in (
            ("is_line", ["thing"]), ("line_of", ["knots", "slope"]), ("flat", ["y"]),
            ("y_at", ["line", "x"]), ("sum_line", one_other), ("times_line", ["line", "by"]),
            ("most_line", one_other), ("least_line", one_other), ("put_into", ["outer", "inner"]),
            ("first_at", ["line", "goal", "*begin=(0, 1)"]), ("never_falls", ["line"]),
            ("unlike_at", one_other),
        ):
            self.assertEqual(parameters(getattr(lines, name)), told)
            self.assertEqual(getattr(lines, name).__module__, "paymill.lines")


if __name__ == "__main__":
    unittest.main()
