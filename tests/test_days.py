import random
import unittest

from common import Contrary, odd_things, parameters, random_days, refused
from paymill import days as days_file
from paymill.days import (
    MOST_PERIOD, Days, all_days, both, count_days, either, last_day, moved, no_days, nth_day,
    others, pay_period, unlike_day, without,
)
from paymill.errors import NoDays, NoNumber, NoStretch, TooLong

FAR = 10 ** 18
WEEK = Days(7, (0, 1, 4), turned=(-3, 12))
LONG = Days(5040, tuple(range(5039)))
SHORTER = Days(5039, (17,))


def slow_has(period, marks, turned, day):
    """Whether a day is in, by the words of 3.1."""
    by_rest = day % period in marks
    return not by_rest if day in turned else by_rest


def slow_period(period, marks):
    """The least period by which the marked rests go round."""
    for shorter in range(1, period + 1):
        if all([(day % period in marks) == ((day + shorter) % period in marks)
                for day in range(period)]):
            return shorter


def among(days, one, other):
    """The days of a stretch, gone through day by day."""
    return [day for day in range(one, other) if days.has(day)]


def is_row_of_unlike(thing):
    """Whether an odd thing happens to be a row of unlike whole numbers."""
    if type(thing) not in (tuple, list) or not all([type(one) is int for one in thing]):
        return False
    return sorted(set(thing)) == sorted(thing)


def many_turned(many):
    """Told Days with so many turned ones."""
    told = no_days()
    for begin in range(0, many, 60):
        few = min(60, many - begin)
        told = either(told, Days(1, (), turned=[7 * (begin + at) for at in range(few)]))
    return told


class MadeDaysTest(unittest.TestCase):
    def test_most_period(self):
        self.assertEqual(MOST_PERIOD, 5040)

    def test_who_is_in(self):
        rng = random.Random(11)
        for _ in range(300):
            period = rng.randint(1, 12)
            marks = rng.sample(range(period), rng.randint(0, period))
            turned = rng.sample(range(-30, 30), rng.randint(0, 8))
            days = Days(period, marks, turned=turned)
            for day in range(-50, 50):
                self.assertIs(days.has(day), slow_has(period, marks, turned, day))

    def test_far_days(self):
        self.assertIs(WEEK.has(7 * FAR + 4), True)
        self.assertIs(WEEK.has(day=7 * FAR + 3), False)
        self.assertIs(WEEK.has(-7 * FAR + 1), True)
        self.assertIs(WEEK.has(-7 * FAR - 1), False)
        days = Days(7, (0,), turned=(FAR * 7, -FAR * 7 + 1))
        self.assertIs(days.has(FAR * 7), False)
        self.assertIs(days.has(-FAR * 7 + 1), True)
        self.assertIs(days.has(-FAR * 7), True)

    def test_wrong_periods(self):
        for thing in odd_things() + [WEEK, 5041, 10 ** 30, -7, "7", (7,), [7]]:
            if not (type(thing) is int and thing == 1):
                refused(self, NoDays, Days, thing, (0,))
                refused(self, NoDays, Days, marks=(), period=thing)

    def test_wrong_marks(self):
        more = [WEEK, (7,), (-1,), (3, 3), [3, 0, 3], (0, 7), ("0",), (0, True), (None,),
                [False], ((0,),), [[0]], (Contrary(),), range(3), {1, 2}, {1: 2}, "01", (10 ** 40,)]
        for thing in odd_things() + more:
            fit = is_row_of_unlike(thing) and all([0 <= one < 7 for one in thing])
            if not fit:
                refused(self, NoDays, Days, 7, thing)
        refused(self, NoDays, Days, 1, (1,))
        refused(self, NoDays, Days, 5040, (5040,))
        refused(self, NoDays, Days, 5040, tuple(range(5040)) + (0,))

    def test_wrong_turned(self):
        more = [WEEK, (3, 3), [3, 0, 3], ("0",), (0, True), (None,), [False], ((0,),), [[0]],
                (Contrary(),), range(3), {1, 2}, {1: 2}, "01"]
        for thing in odd_things() + more:
            if not is_row_of_unlike(thing):
                refused(self, NoDays, Days, 7, (0,), turned=thing)

    def test_sixty_turned_and_no_more(self):
        for kind in (tuple, list):
            sixty = kind(range(-30, 30))
            self.assertEqual(Days(7, (), turned=sixty).turned, tuple(range(-30, 30)))
            refused(self, NoDays, Days, 7, (), turned=kind(range(61)))
            refused(self, NoDays, Days, 7, (), turned=kind(range(FAR, FAR + 500)))

    def test_told_ones_may_have_more_turned(self):
        told = either(Days(1, (), turned=tuple(range(60))), Days(1, (), turned=(FAR,)))
        self.assertEqual(told.turned, tuple(range(60)) + (FAR,))
        refused(self, NoDays, Days, told.period, told.marks, turned=told.turned)
        for day in (-1, 60, FAR - 1, FAR + 1):
            self.assertIs(told.has(day), False)
        again = moved(others(told), 5)
        self.assertEqual(again.turned, tuple(range(5, 65)) + (FAR + 5,))
        self.assertEqual(str(again), "1:0;" + ",".join([str(day) for day in again.turned]))

    def test_rows_handed_in_are_not_changed_nor_kept(self):
        marks, turned = [4, 0, 1], [12, -3]
        days = Days(7, marks, turned=turned)
        self.assertEqual((marks, turned), ([4, 0, 1], [12, -3]))
        marks.append(5)
        turned.clear()
        self.assertEqual((days.period, days.marks, days.turned), (7, (0, 1, 4), (-3, 12)))
        self.assertEqual(days, WEEK)

    def test_arguments_by_name(self):
        self.assertEqual(parameters(Days.__init__), ["period", "marks", "*turned=()"])
        self.assertEqual(Days(marks=[0], period=2, turned=(1,)), Days(2, (0,), turned=[1]))
        with self.assertRaises(TypeError):
            Days(2, (0,), (1,))


class NormalFormTest(unittest.TestCase):
    def test_there_is_just_one(self):
        rng = random.Random(12)
        for _ in range(400):
            period = rng.choice((1, 2, 3, 4, 6, 8, 9, 12, 30))
            shorter = rng.choice([many for many in range(1, period + 1) if period % many == 0])
            some = rng.sample(range(shorter), rng.randint(0, shorter))
            marks = [mark for mark in range(period) if mark % shorter in some]
            turned = rng.sample(range(-40, 40), rng.randint(0, 6))
            rng.shuffle(marks)
            days = Days(period, marks, turned=turned)
            least = slow_period(period, marks)
            self.assertEqual(days.period, least)
            self.assertEqual(days.marks, tuple(sorted([one for one in marks if one < least])))
            self.assertEqual(days.turned, tuple(sorted(turned)))
            self.assertEqual(len(days), least)
            self.assertEqual(Days(days.period, days.marks, turned=days.turned), days)
            self.assertEqual(days, Days(shorter, some, turned=turned[::-1]))

    def test_no_marks_and_all_marks(self):
        for period in (1, 2, 7, 5039, 5040):
            self.assertEqual(str(Days(period, ())), "1:")
            self.assertEqual(str(Days(period, list(range(period)))), "1:0")
            self.assertEqual(str(Days(period, (), turned=(5,))), "1:;5")
        self.assertEqual(len(Days(5040, tuple(range(0, 5040, 2)))), 2)
        self.assertEqual(len(LONG), 5040)
        self.assertEqual(Days(5040, tuple(range(0, 5040, 630))), Days(630, (0,)))

    def test_written(self):
        for days, text in (
            (WEEK, "7:0,1,4;-3,12"), (Days(7, (4, 1, 0)), "7:0,1,4"), (Days(1, (0,)), "1:0"),
            (Days(2, (1,), turned=(3, -FAR)), f"2:1;{-FAR},3"), (Days(14, (0, 7)), "7:0"),
        ):
            self.assertEqual(str(days), text)
            self.assertEqual(repr(days), text)

    def test_written_with_days_of_thousands_of_figures(self):
        days = Days(3, (1,), turned=(-10 ** 5000, 10 ** 5000))
        self.assertEqual(str(days), "3:1;-1" + "0" * 5000 + ",1" + "0" * 5000)
        self.assertEqual(repr(days), str(days))

    def test_equal_where_the_same_days(self):
        rng = random.Random(13)
        some = [random_days(rng, periods=(1, 2, 3, 4), turned=2, reach=3) for _ in range(60)]
        some.append(Days(1, (0,), turned=(1,)))
        for one in some:
            for other in some:
                alike = among(one, -30, 30) == among(other, -30, 30)
                self.assertIs(one == other, alike)
                self.assertIs(one != other, not alike)
                self.assertEqual(str(one) == str(other), alike)

    def test_equal_with_anything(self):
        for thing in odd_things() + ["7:0,1,4;-3,12", (7, (0, 1, 4), (-3, 12))]:
            self.assertIs(WEEK == thing, False)
            self.assertIs(WEEK != thing, True)
        self.assertIs(WEEK == Days(7, (0, 1, 4), turned=(12, -3)), True)
        self.assertIs(WEEK == Days(7, (0, 1, 4), turned=(12,)), False)
        self.assertIs(WEEK == Days(7, (0, 1, 5), turned=(12, -3)), False)
        self.assertIs(WEEK == Days(8, (0, 1, 4), turned=(12, -3)), False)


class JoinedDaysTest(unittest.TestCase):
    def check(self, days, wanted):
        self.assertEqual(among(days, -90, 90), [day for day in range(-90, 90) if wanted(day)])
        normal = Days(days.period, days.marks, turned=days.turned)
        self.assertEqual(str(days), str(normal))
        self.assertEqual(days, normal)

    def test_day_by_day(self):
        rng = random.Random(14)
        for _ in range(300):
            one, other = random_days(rng), random_days(rng)
            self.check(both(one, other), lambda day: one.has(day) and other.has(day))
            self.check(either(one, other), lambda day: one.has(day) or other.has(day))
            self.check(without(one, other), lambda day: one.has(day) and not other.has(day))
            self.check(others(one), lambda day: not one.has(day))
            by = rng.randint(-50, 50)
            self.check(moved(one, by), lambda day: one.has(day - by))

    def test_all_and_none(self):
        self.assertEqual(str(all_days()), "1:0")
        self.assertEqual(str(no_days()), "1:")
        self.assertEqual(others(all_days()), no_days())
        self.assertEqual(either(WEEK, others(WEEK)), all_days())
        self.assertEqual(both(WEEK, others(WEEK)), no_days())
        self.assertEqual(without(all_days(), WEEK), others(WEEK))
        self.assertEqual(without(WEEK, WEEK), no_days())
        self.assertEqual(both(WEEK, all_days()), WEEK)
        self.assertEqual(either(other=no_days(), one=WEEK), WEEK)
        self.assertEqual(moved(by=0, days=WEEK), WEEK)

    def test_what_is_told_is_the_askers_own(self):
        for tell in (all_days, no_days):
            self.assertIsNot(tell(), tell())
        for told in (both(WEEK, WEEK), either(WEEK, WEEK), moved(WEEK, 0), others(others(WEEK))):
            self.assertEqual(told, WEEK)
            self.assertIsNot(told, WEEK)
        told = all_days()
        told.marks = ()
        self.assertEqual(str(all_days()), "1:0")
        told = moved(WEEK, 0)
        told.turned = ()
        self.assertEqual(str(WEEK), "7:0,1,4;-3,12")

    def test_moved_far(self):
        told = moved(WEEK, FAR)
        self.assertEqual(told.turned, (FAR - 3, FAR + 12))
        self.assertEqual(told.marks, tuple(sorted([(one + FAR) % 7 for one in (0, 1, 4)])))
        self.assertEqual(moved(told, -FAR), WEEK)
        self.assertEqual(moved(all_days(), -FAR), all_days())
        again = moved(moved(told, FAR), FAR)
        self.assertEqual(again.turned, (3 * FAR - 3, 3 * FAR + 12))

    def test_too_long_by_the_least_periods(self):
        for ask in (both, either, without):
            for one, other, many in (
                (LONG, SHORTER, 5040 * 5039), (SHORTER, LONG, 5040 * 5039),
                (Days(71, (0,)), Days(72, (0,)), 5112), (Days(11, (3,)), LONG, 55440),
                (Days(22, (3, 14)), LONG, 55440), (Days(32, (1,)), LONG, 10080),
            ):
                self.assertEqual(refused(self, TooLong, ask, one, other).many, many)
            self.assertEqual(refused(self, TooLong, ask, other=LONG, one=Days(11, (3,))).many, 55440)

    def test_not_too_long_by_the_least_periods(self):
        self.assertEqual(both(Days(22, tuple(range(22))), LONG), LONG)
        self.assertEqual(either(SHORTER, Days(5040, ())), SHORTER)
        told = both(Days(70, (0,)), Days(72, (0,)))
        self.assertEqual(told, Days(2520, (0,)))
        told = both(Days(63, (0,)), Days(80, (0,)))
        self.assertEqual((told.period, told.marks), (5040, (0,)))

    def test_too_long_whatever_would_come(self):
        # One has even days alone, the other odd ones: no day would come of both.
        one, other = Days(5038, tuple(range(0, 5036, 2))), Days(4, (1,))
        self.assertEqual(refused(self, TooLong, both, one, other).many, 5038 * 2)
        self.assertEqual(refused(self, TooLong, without, other, one).many, 5038 * 2)

    def test_turned_ones_that_are_turned_no_more(self):
        day = Days(1, (), turned=(5,))
        self.assertEqual(either(without(all_days(), day), day), all_days())
        self.assertEqual(both(Days(2, (1,)), day), day)
        self.assertEqual(either(Days(2, (1,)), day), Days(2, (1,)))
        self.assertEqual(str(either(Days(2, (0,)), day)), "2:0;5")


class CountedDaysTest(unittest.TestCase):
    def some(self):
        rng = random.Random(15)
        made = [random_days(rng, reach=20) for _ in range(50)]
        made.extend([all_days(), no_days(), WEEK, Days(1, (), turned=(-4, 9)),
                     Days(1, (0,), turned=(-4, 9)), Days(3, (1,), turned=tuple(range(-9, 9)))])
        return made

    def test_count_days(self):
        for days in self.some():
            for one in range(-32, 30, 5):
                for other in range(one, 36, 4):
                    self.assertEqual(count_days(days, one, other), len(among(days, one, other)))

    def test_count_of_no_stretch(self):
        self.assertEqual(count_days(WEEK, 4, 4), 0)
        self.assertEqual(count_days(other=5, one=4, days=WEEK), 1)
        refused(self, NoStretch, count_days, WEEK, 4, 3)
        refused(self, NoStretch, count_days, all_days(), FAR, -FAR)

    def test_nth_day(self):
        for days in self.some():
            for begin in range(-25, 24, 3):
                row = among(days, begin, 200)
                for at in (0, 1, 2, 3, 7, 11):
                    wanted = row[at] if at < len(row) else None
                    self.assertEqual(nth_day(days, begin, at=at), wanted)
                self.assertEqual(nth_day(days, begin), row[0] if row else None)

    def test_nth_day_of_at_below_0(self):
        for at in (-1, -7, -FAR):
            for days in (WEEK, no_days()):
                self.assertEqual(refused(self, NoNumber, nth_day, days, 0, at=at).number, at)

    def test_last_day(self):
        for days in self.some():
            for ahead in range(-24, 26):
                row = among(days, -200, ahead)
                self.assertEqual(last_day(days, ahead), row[-1] if row else None)

    def test_pay_period(self):
        for days in self.some():
            for day in range(-24, 25):
                ahead, behind = among(days, -200, day + 1), among(days, day + 1, 200)
                wanted = (ahead[-1], behind[0]) if ahead and behind else None
                self.assertEqual(pay_period(days, day), wanted)
        self.assertEqual(pay_period(WEEK, 4), (4, 7))
        self.assertEqual(pay_period(day=3, days=WEEK), (1, 4))
        self.assertIsNone(pay_period(Days(1, (), turned=(5,)), 5))
        self.assertEqual(pay_period(Days(1, (), turned=(5, 9)), 5), (5, 9))
        self.assertIsNone(pay_period(Days(1, (), turned=(5, 9)), 9))

    def test_far(self):
        span = 10 ** 12
        self.assertEqual(count_days(all_days(), -FAR, FAR), 2 * FAR)
        self.assertEqual(count_days(WEEK, 0, 7 * span), 3 * span + 1)
        self.assertEqual(count_days(WEEK, -7 * span, 7 * span), 6 * span)
        self.assertEqual(count_days(LONG, 0, 5040 * span + 5040), 5039 * (span + 1))
        self.assertEqual(nth_day(WEEK, 0, at=3 * span), 7 * span - 3)
        self.assertEqual(nth_day(LONG, 0, at=5039 * FAR + 5038), 5040 * FAR + 5038)
        self.assertEqual(nth_day(SHORTER, FAR, at=FAR) % 5039, 17)
        self.assertEqual(last_day(LONG, 5040 * FAR), 5040 * FAR - 2)
        lonely = Days(1, (), turned=(-FAR, FAR))
        self.assertEqual(nth_day(lonely, -FAR, at=1), FAR)
        self.assertIsNone(nth_day(lonely, -FAR, at=2))
        self.assertIsNone(nth_day(lonely, -FAR, at=FAR))
        self.assertEqual(last_day(lonely, FAR), -FAR)
        self.assertEqual(pay_period(lonely, 0), (-FAR, FAR))
        self.assertEqual(count_days(others(lonely), -FAR, FAR), 2 * FAR - 1)

    def test_count_and_nth_day_go_together_however_far(self):
        rng = random.Random(16)
        for _ in range(200):
            days = either(random_days(rng), Days(12, (5,), turned=(FAR, -FAR)))
            begin = rng.choice((-FAR - 3, -FAR, 0, 7, FAR - 5, FAR, FAR + 1))
            at = rng.choice((0, 1, 13, 10 ** 12, FAR, 10 ** 25))
            day = nth_day(days, begin, at=at)
            self.assertIs(days.has(day), True)
            self.assertEqual(count_days(days, begin, day), at)
            self.assertEqual(last_day(days, day + 1), day)
            ahead = last_day(days, day)
            self.assertEqual(count_days(days, ahead, day), 1)

    def test_with_many_turned(self):
        days = many_turned(600)
        self.assertEqual(len(days.turned), 600)
        self.assertEqual(count_days(days, 0, 7 * 600), 600)
        self.assertEqual(nth_day(days, 1, at=500), 7 * 501)
        self.assertEqual(last_day(days, FAR), 7 * 599)
        self.assertEqual(nth_day(others(days), 0, at=6 * 600), 7 * 600)


class UnlikeDayTest(unittest.TestCase):
    def test_day_by_day(self):
        rng = random.Random(18)
        for _ in range(150):
            one, other = random_days(rng, turned=4), random_days(rng, turned=4)
            if rng.randint(0, 3) == 0:
                other = Days(one.period, one.marks, turned=other.turned)
            for begin in range(-34, 34, 4):
                unlike = [day for day in range(begin, 70) if one.has(day) != other.has(day)]
                self.assertEqual(unlike_day(one, other, begin), unlike[0] if unlike else None)

    def test_periods_whose_words_are_alike_as_long_as_can_be(self):
        # Of all pairs of words of some periods those that part the latest.
        for period, other_period in ((2, 3), (3, 5), (5, 8), (34, 55), (5039, 5040)):
            many = period + other_period - 2
            word = alike_word(period, other_period)
            one = Days(period, [at for at in range(period) if word[at]])
            other = Days(other_period, [at for at in range(other_period) if word[at]])
            self.assertEqual((one.period, other.period), (period, other_period))
            self.assertEqual(among(one, 0, many), among(other, 0, many))
            self.assertEqual(unlike_day(one, other, 0), many)

    def test_however_far(self):
        self.assertIsNone(unlike_day(WEEK, WEEK, -FAR))
        self.assertIsNone(unlike_day(WEEK, Days(7, (0, 1, 4)), 13))
        self.assertEqual(unlike_day(WEEK, Days(7, (0, 1, 4)), -FAR), -3)
        self.assertEqual(unlike_day(WEEK, Days(7, (0, 1, 4)), -2), 12)
        self.assertEqual(unlike_day(begin=0, other=no_days(), one=Days(1, (), turned=(FAR,))), FAR)
        self.assertEqual(unlike_day(LONG, all_days(), 5040 * FAR), 5040 * FAR + 5039)
        self.assertEqual(unlike_day(SHORTER, no_days(), 5039 * FAR + 18), 5039 * FAR + 5056)

    def test_whatever_the_periods(self):
        one = Days(5039, tuple(range(5039 - 1)))
        self.assertEqual(unlike_day(one, LONG, 0), 5038)
        # The day ahead of this one is in neither.
        met = 5039 * 5040 * 10 ** 12
        self.assertEqual(unlike_day(one, LONG, met - 1), met + 5038)
        self.assertEqual(unlike_day(Days(5040, (0,)), Days(5039, (0,)), 0), 5039)
        self.assertEqual(unlike_day(Days(5040, (0,)), Days(5039, (0,)), 5041), 2 * 5039)

    def test_turned_ones_take_back_what_is_unlike(self):
        turned = tuple([5039 + 5040 * at for at in range(60)])
        one = Days(5040, tuple(range(5039)), turned=turned)
        self.assertEqual(unlike_day(one, all_days(), 0), 5039 + 5040 * 60)
        self.assertEqual(unlike_day(all_days(), one, 5039 + 5040 * 59), 5039 + 5040 * 60)
        self.assertEqual(unlike_day(all_days(), one, -1), -1)
        self.assertIsNone(unlike_day(one, one, -FAR))
        many = many_turned(600)
        self.assertEqual(unlike_day(many, no_days(), 7 * 599), 7 * 599)
        self.assertIsNone(unlike_day(many, no_days(), 7 * 599 + 1))


class InterfaceTest(unittest.TestCase):
    def test_names_of_arguments(self):
        one_other = ["one", "other"]
        for name, told in (
            ("all_days", []), ("no_days", []), ("both", one_other), ("either", one_other),
            ("without", one_other), ("others", ["days"]), ("moved", ["days", "by"]),
            ("count_days", ["days", "one", "other"]), ("nth_day", ["days", "begin", "*at=0"]),
            ("last_day", ["days", "ahead"]), ("unlike_day", ["one", "other", "begin"]),
            ("pay_period", ["days", "day"]),
        ):
            self.assertEqual(parameters(getattr(days_file, name)), told)
            self.assertEqual(getattr(days_file, name).__module__, "paymill.days")

    def test_methods_of_days_are_its_own(self):
        for name in ("__init__", "has", "__eq__", "__len__", "__str__", "__repr__"):
            self.assertIn(name, vars(Days))
        self.assertEqual(parameters(Days.has), ["day"])


def alike_word(period, other_period):
    """A word that goes round by both of two periods without common divisor.

    It is of as many signs as both together less two, and not all alike.
    """
    many = period + other_period - 2
    signs = [None] * many
    for sign in (0, 1):
        waiting = [signs.index(None)]
        while waiting:
            at = waiting.pop()
            if 0 <= at < many and signs[at] is None:
                signs[at] = sign
                waiting.extend([at + period, at - period, at + other_period, at - other_period])
    assert None not in signs
    return signs


if __name__ == "__main__":
    unittest.main()
