import random
import unittest

from common import Contrary, odd_things, parameters, refused, slow_value
from paymill import tellings as tellings_file
from paymill.days import Days
from paymill.errors import NoNumber, NoStretch, NoTelling
from paymill.lines import flat
from paymill.parts import NOUGHT, ONE
from paymill.sheets import Sheet
from paymill.tellings import (
    course_of, holder_on, is_course, is_telling, pieces, unlike_stretches, value_on,
)

FAR = 10 ** 18
TOLD = ((0, 10, "a"), (5, None, "b"), (8, 20, "a"), (12, 14, "c"))
COURSE = ((0, "a"), (5, "b"), (8, "a"), (12, "c"), (14, "a"), (20, "b"))


def slow_holder(told, day, gone=()):
    """The number of the telling that holds of a day, by the words of 6.1."""
    found = None
    for number, (begin, end, _) in enumerate(told):
        if number not in gone and begin <= day and (end is None or day < end):
            found = number
    return found


def random_tellings(rng, most=8, values="abc"):
    made = []
    for _ in range(rng.randint(0, most)):
        begin = rng.randint(-12, 12)
        end = rng.choice((None, begin + 1, begin + rng.randint(1, 12)))
        made.append((begin, end, rng.choice(values)))
    return made


def random_course(rng, most=6):
    return course_of(random_tellings(rng, most))


class IsTellingTest(unittest.TestCase):
    def test_tellings(self):
        for value in ("a", "", 0, False, ONE, (), Sheet([flat(NOUGHT)]), Days(7, (1,)), object(), ...,
                      [], {}, [None], {"a": [1]}, Contrary(), NotImplemented, len, b""):
            for begin, end in ((0, 1), (0, None), (-5, -4), (FAR, 10 ** 30), (-FAR, None)):
                self.assertIs(is_telling((begin, end, value)), True)
        self.assertIs(is_telling(thing=(3, None, "a")), True)

    def test_other_things(self):
        for thing in odd_things():
            self.assertIs(is_telling(thing), repr(thing) == "(0, 1, 2)", thing)
        for thing in (
            (0, 0, "a"), (1, 0, "a"), (0, -FAR, "a"), (0, 1, None), (0, None, None), (None, 1, "a"),
            (None, None, "a"), (True, 5, "a"), (0, True, "a"), (False, None, "a"), ("0", 1, "a"),
            (0, "1", "a"), [0, 1, "a"], (0, 1), (0, 1, "a", "b"), ((0, 1, "a"),), (ONE, None, "a"),
            (0, ONE, "a"), (0, False, "a"), (0, (), "a"), (Contrary(), 1, "a"), (0, Contrary(), "a"),
        ):
            self.assertIs(is_telling(thing), False, thing)


class IsCourseTest(unittest.TestCase):
    def test_courses(self):
        for thing in ((), COURSE, ((0, "a"),), ((-FAR, 0), (FAR, None)), ((0, "a"), (1, None), (2, "a")),
                      ((0, []), (1, [1]), (2, {}), (3, [])), ((0, 0), (1, ""), (2, ()), (3, 0)),
                      ((0, Sheet([flat(NOUGHT)])), (1, Sheet([flat(ONE)]))), ((0, Contrary()),),
                      ((0, Contrary()), (1, None), (2, Contrary()))):
            self.assertIs(is_course(thing), True, thing)
        self.assertIs(is_course(thing=COURSE), True)

    def test_other_things(self):
        for thing in odd_things():
            self.assertIs(is_course(thing), repr(thing) in ("()", "((0, 1),)"), thing)
        for thing in (
            [], [(0, "a")], ((0, None),), ((0, None), (1, "a")), ((0, "a"), (0, "b")),
            ((1, "a"), (0, "b")), ((0, "a"), (1, "a")), ((0, "a"), (1, None), (2, None)),
            ((0, "a"), (1, "b"), (2, "b")), ((0, "a", 1),), ((0,),), (0, "a"), ((True, "a"),),
            ((0, "a"), (True, "b")), (("0", "a"),), ((None, "a"),), ([0, "a"],), ((0, "a"), [1, "b"]),
            ((0, "a"), (2, "b"), (1, "c")), ((0, "a"), None), ((0, 1), (1, True)), ((0, []), (1, [])),
            ((0, [[1], {}]), (1, [[1], {}])), ((0, Sheet([flat(ONE)])), (1, Sheet([flat(ONE)] * 2))),
            ((Contrary(), "a"),), ((0, Contrary()), Contrary()), (Contrary(), (0, "a")),
        ):
            self.assertIs(is_course(thing), False, thing)


class CourseOfTest(unittest.TestCase):
    def test_by_hand(self):
        self.assertEqual(course_of(TOLD), COURSE)
        self.assertEqual(course_of(list(TOLD)), COURSE)
        self.assertEqual(course_of(TOLD, without=(3,)), COURSE[:3] + ((20, "b"),))
        self.assertEqual(course_of(without=[1, 3, 1], tellings=TOLD), ((0, "a"), (20, None)))
        self.assertEqual(course_of(TOLD, without=(0, 2)), ((5, "b"), (12, "c"), (14, "b")))
        for none in ((), []):
            self.assertEqual(course_of(none), ())
        self.assertEqual(course_of(TOLD, without=(0, 1, 2, 3)), ())
        self.assertEqual(course_of(TOLD, without=[3, 2, 1, 0, 0, 3]), ())

    def test_tellings_that_touch(self):
        for told, course in (
            (((0, 5, "a"), (5, 9, "a")), ((0, "a"), (9, None))),
            (((0, 5, "a"), (5, 9, "b")), ((0, "a"), (5, "b"), (9, None))),
            (((0, 5, "a"), (6, 9, "a")), ((0, "a"), (5, None), (6, "a"), (9, None))),
            (((0, 5, "a"), (0, 5, "b")), ((0, "b"), (5, None))),
            (((0, 9, "a"), (3, 4, "b")), ((0, "a"), (3, "b"), (4, "a"), (9, None))),
            (((3, 4, "b"), (0, 9, "a")), ((0, "a"), (9, None))),
            (((0, None, "a"), (3, None, "b")), ((0, "a"), (3, "b"))),
            (((3, None, "b"), (0, None, "a")), ((0, "a"),)),
            (((0, None, "a"), (3, 9, "a")), ((0, "a"),)),
            (((0, 3, "a"), (3, None, "a")), ((0, "a"),)),
            (((-FAR, FAR, "a"), (FAR - 1, 10 ** 30, "b")),
             ((-FAR, "a"), (FAR - 1, "b"), (10 ** 30, None))),
        ):
            self.assertEqual(course_of(told), course)

    def test_day_by_day(self):
        rng = random.Random(81)
        for _ in range(400):
            told = random_tellings(rng)
            gone = rng.choices(range(len(told)), k=rng.randint(0, 3)) if told else []
            course = course_of(told, without=gone)
            self.assertIs(is_course(course), True)
            for day in range(-15, 30):
                number = slow_holder(told, day, gone)
                self.assertEqual(holder_on(told, day, without=gone), number)
                wanted = None if number is None else told[number][2]
                self.assertEqual(slow_value(course, day), wanted)
                self.assertEqual(value_on(course, day), wanted)

    def test_just_one_course(self):
        rng = random.Random(82)
        some = [random_tellings(rng, 3, "ab") for _ in range(80)]
        some.extend([[(0, 5, "a")], [(0, 2, "a"), (2, 5, "a")], [(1, 5, "a"), (0, 1, "a")]])
        told = [(course_of(row), [slow_holder(row, day) for day in range(-15, 30)]) for row in some]
        for row, (course, holders) in zip(some, told):
            values = [None if number is None else row[number][2] for number in holders]
            for other_row, (other, other_holders) in zip(some, told):
                others = [None if number is None else other_row[number][2] for number in other_holders]
                self.assertIs(course == other, values == others)

    def test_values_that_are_equal(self):
        self.assertEqual(course_of(((0, 5, 1), (5, 9, True))), ((0, 1), (9, None)))
        one, other = Sheet([flat(ONE)]), Sheet([flat(ONE)] * 3)
        course = course_of([(0, 5, one), (5, None, other), (7, 8, Sheet([flat(NOUGHT)]))])
        self.assertEqual(course, ((0, one), (7, Sheet([flat(NOUGHT)])), (8, one)))
        self.assertEqual(course_of(((0, 5, 0), (5, 7, False), (7, 9, ""))), ((0, 0), (7, ""), (9, None)))
        self.assertEqual(course_of(((0, 1, ()), (1, 2, ""))), ((0, ()), (1, ""), (2, None)))

    def test_sixty(self):
        told = [(at, 200 - at, at % 7) for at in range(60)]
        course = course_of(told)
        self.assertEqual(len(course), 120)
        self.assertEqual([value_on(course, day) for day in (0, 59, 140, 141, 199, 200, -1)],
                         [0, 3, 3, 2, 0, None, None])
        self.assertEqual(course_of(told, without=range_row(1, 60)), ((0, 0), (200, None)))

    def test_no_telling(self):
        for thing in odd_things() + [(0, 0, "a"), (0, 1, None), [0, 1, "a"], (True, 2, "a"), ((0, 1, "a"),)]:
            if repr(thing) == "(0, 1, 2)":
                continue
            for row in ((thing,), [thing], TOLD + (thing,), (thing, *TOLD)):
                refused(self, NoTelling, course_of, row)
                refused(self, NoTelling, holder_on, row, 3)
                # NoTelling is told ahead of NoNumber.
                refused(self, NoTelling, course_of, row, without=(99, None))
                refused(self, NoTelling, holder_on, row, 3, without=[-1])

    def test_no_number(self):
        for thing in odd_things() + [4, -1, -4, FAR, "1", ONE, (1,), [1]]:
            if type(thing) is int and 0 <= thing < 4:
                continue
            for row in ((thing,), [thing], (0, 3, thing, 99), [3, 3, thing], (thing, 0, -7)):
                refusal = refused(self, NoNumber, course_of, TOLD, without=row)
                self.assertTrue(refusal.number is thing)
                refusal = refused(self, NoNumber, holder_on, TOLD, 3, without=row)
                self.assertTrue(refusal.number is thing)
        self.assertEqual(refused(self, NoNumber, course_of, (), without=(0,)).number, 0)
        self.assertEqual(refused(self, NoNumber, holder_on, (), 0, without=[0]).number, 0)

    def test_nothing_handed_in_is_changed(self):
        told, gone = list(TOLD), [3, 1, 3]
        course_of(told, without=gone)
        holder_on(told, 5, without=gone)
        self.assertEqual((told, gone), (list(TOLD), [3, 1, 3]))


class HolderTest(unittest.TestCase):
    def test_by_hand(self):
        for day, number in ((-1, None), (0, 0), (4, 0), (5, 1), (7, 1), (8, 2), (12, 3), (13, 3), (14, 2),
                            (19, 2), (20, 1), (FAR, 1), (-FAR, None)):
            self.assertEqual(holder_on(TOLD, day), number)
        self.assertEqual(holder_on(TOLD, 12, without=(3,)), 2)
        self.assertEqual(holder_on(day=12, without=[2, 3, 2], tellings=list(TOLD)), 1)
        self.assertIsNone(holder_on(TOLD, 12, without=[2, 3, 1]))
        self.assertIsNone(holder_on((), 0))


class ValueTest(unittest.TestCase):
    def test_by_hand(self):
        for day, value in ((-FAR, None), (-1, None), (0, "a"), (4, "a"), (5, "b"), (11, "a"), (12, "c"),
                           (13, "c"), (14, "a"), (20, "b"), (FAR, "b")):
            self.assertEqual(value_on(COURSE, day), value)
        self.assertIsNone(value_on((), 0))
        self.assertIsNone(value_on(day=5, course=((0, "a"), (5, None))))


class PiecesTest(unittest.TestCase):
    def test_by_hand(self):
        self.assertEqual(pieces(COURSE, -3, 13), (
            (-3, 0, None), (0, 5, "a"), (5, 8, "b"), (8, 12, "a"), (12, 13, "c")))
        self.assertEqual(pieces(other=12, one=8, course=COURSE), ((8, 12, "a"),))
        self.assertEqual(pieces(COURSE, 9, 11), ((9, 11, "a"),))
        self.assertEqual(pieces(COURSE, 30, FAR), ((30, FAR, "b"),))
        self.assertEqual(pieces(COURSE, -FAR, 0), ((-FAR, 0, None),))
        self.assertEqual(pieces((), -1, 1), ((-1, 1, None),))
        self.assertEqual(pieces(((0, "a"), (3, None)), 1, 9), ((1, 3, "a"), (3, 9, None)))
        self.assertEqual(pieces(((0, "a"), (3, None), (5, "a")), 0, 6),
                         ((0, 3, "a"), (3, 5, None), (5, 6, "a")))

    def test_of_a_stretch_of_none(self):
        for day in (-1, 0, 3, 5, 12, FAR):
            self.assertEqual(pieces(COURSE, day, day), ())
            self.assertEqual(pieces((), day, day), ())

    def test_no_stretch(self):
        for one, other in ((0, -1), (6, 5), (FAR, -FAR)):
            refused(self, NoStretch, pieces, COURSE, one, other)
            refused(self, NoStretch, pieces, (), one, other)

    def test_day_by_day(self):
        rng = random.Random(83)
        for _ in range(300):
            course = random_course(rng)
            one = rng.randint(-20, 20)
            other = one + rng.randint(1, 30)
            row = pieces(course, one, other)
            self.assertEqual((row[0][0], row[-1][1]), (one, other))
            for ahead, behind in zip(row, row[1:]):
                self.assertEqual(ahead[1], behind[0])
                self.assertNotEqual(ahead[2], behind[2])
            for begin, end, value in row:
                self.assertLess(begin, end)
                for day in range(begin, end):
                    self.assertEqual(slow_value(course, day), value)


class UnlikeStretchesTest(unittest.TestCase):
    def test_by_hand(self):
        for one, other, row in (
            (COURSE, COURSE, ()), ((), (), ()), ((), ((3, "a"),), ((3, None),)),
            (((3, "a"),), ((5, "a"),), ((3, 5),)), (((3, "a"),), ((3, "b"),), ((3, None),)),
            (((3, "a"), (9, None)), ((5, "b"),), ((3, None),)),
            (((3, "a"), (9, None)), ((3, "a"), (5, "b"), (9, None)), ((5, 9),)),
            (((0, "a"), (5, "b")), ((0, "b"), (5, "a")), ((0, None),)),
            (((0, "a"), (5, "b"), (7, "c")), ((0, "b"), (5, "a"), (7, "c")), ((0, 7),)),
            (((0, "a"), (9, None)), ((0, "a"), (2, "b"), (3, "a"), (5, None)), ((2, 3), (5, 9))),
            (((-FAR, "a"),), ((FAR, "a"),), ((-FAR, FAR),)), (((0, 1),), ((0, True),), ()),
            (((0, 0),), (), ((0, None),)), (((0, ""), (2, None)), (), ((0, 2),)),
        ):
            self.assertEqual(unlike_stretches(one, other), row)
            self.assertEqual(unlike_stretches(other=one, one=other), row)

    def test_of_sheets(self):
        one = ((0, Sheet([flat(ONE)])), (7, None))
        other = ((0, Sheet([flat(ONE)] * 2)), (5, Sheet([flat(NOUGHT)])))
        self.assertEqual(unlike_stretches(one, other), ((5, None),))

    def test_day_by_day(self):
        rng = random.Random(84)
        for _ in range(400):
            one, other = random_course(rng), random_course(rng)
            if rng.randint(0, 2) == 0:
                other = course_of([*[(begin, None, value) for begin, value in one if value],
                                   (rng.randint(-9, 9), rng.randint(10, 15), "a")])
            row = unlike_stretches(one, other)
            self.assertIs(type(row), tuple)
            for (_, end), (begin, _) in zip(row, row[1:]):
                self.assertLess(end, begin)
            for begin, end in row:
                self.assertTrue(end is None or begin < end)
            for day in range(-40, 60):
                among = any([begin <= day and (end is None or day < end) for begin, end in row])
                self.assertIs(among, slow_value(one, day) != slow_value(other, day))


def range_row(begin, end):
    return tuple(range(begin, end))


class InterfaceTest(unittest.TestCase):
    def test_names_of_arguments(self):
        for name, told in (
            ("is_telling", ["thing"]), ("is_course", ["thing"]),
            ("course_of", ["tellings", "*without=()"]),
            ("holder_on", ["tellings", "day", "*without=()"]), ("value_on", ["course", "day"]),
            ("pieces", ["course", "one", "other"]), ("unlike_stretches", ["one", "other"]),
        ):
            self.assertEqual(parameters(getattr(tellings_file, name)), told)
            self.assertEqual(getattr(tellings_file, name).__module__, "paymill.tellings")


if __name__ == "__main__":
    unittest.main()
