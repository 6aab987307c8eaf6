import random
import time
import unittest
from fractions import Fraction

from common import (
    as_part, parameters, random_line, random_part, random_rule, refused, slow_value, slow_y, worth,
)
from paymill import dues
from paymill.days import MOST_PERIOD, Days
from paymill.dues import due_between, due_on, sheet_due, terms
from paymill.errors import NoAmount, NoStretch
from paymill.lines import flat, line_of
from paymill.parts import NOUGHT, ONE, part, plus
from paymill.sheets import Sheet, sheet_of
from paymill.tellings import course_of

FAR = 10 ** 18
LONG = 10 ** 12
PAY = line_of([(NOUGHT, NOUGHT), (part(8), part(96))], part(18))
COOK = sheet_of(("on", Days(7, (0, 1, 2)), ("hours", PAY), ("flat", NOUGHT)))
CLERK = sheet_of(("flat", part(50)))
BOOK = {"cook": ((0, COOK), (100, None), (110, CLERK)), "clerk": ((-20, CLERK),)}
BOB = (((-5, "cook"), (60, "clerk"), (90, "cook"), (200, None)), ((0, part(8)), (50, part(10)), (70, None),
                                                                 (75, part(1, 2))))


def slow_pays(sheet, day, hours):
    """What a sheet pays, in fractions, by the words of 4.2."""
    lines = dict(sheet.odd)
    return slow_y(lines.get(day, sheet.rows[day % len(sheet.rows)]), worth(hours))


def slow_due(book, person, day):
    """The due of a day, in fractions, by the words of 7.1."""
    rank, hours = slow_value(person[0], day), slow_value(person[1], day)
    if rank is None or hours is None or rank not in book:
        return Fraction(0)
    sheet = slow_value(book[rank], day)
    return Fraction(0) if sheet is None else slow_pays(sheet, day, hours)


def random_tellings(rng, values, most=5, reach=25):
    made = []
    for _ in range(rng.randint(0, most)):
        begin = rng.randint(-reach, reach)
        end = rng.choice((None, begin + rng.randint(1, 30)))
        made.append((begin, end, rng.choice(values)))
    return made


def random_sheet(rng):
    lines = [random_line(rng, 3) for _ in range(3)]
    odd = [(day, rng.choice(lines)) for day in rng.sample(range(-20, 20), rng.randint(0, 4))]
    return Sheet([rng.choice(lines) for _ in range(rng.choice((1, 2, 3, 7)))], odd=odd)


def random_case(rng):
    sheets = [random_sheet(rng) for _ in range(3)]
    book = {rank: course_of(random_tellings(rng, sheets)) for rank in ("a", "b", "c")}
    hours = [random_part(rng, 0, 12) for _ in range(3)]
    person = (course_of(random_tellings(rng, ("a", "b", "c", "d"))), course_of(random_tellings(rng, hours)))
    return book, person


class DueOnTest(unittest.TestCase):
    def test_by_hand(self):
        for day, due in ((-6, 0), (-5, 0), (-1, 0), (0, 96), (1, 96), (2, 96), (3, 0), (7, 96), (49, 96),
                         (50, 132), (51, 132), (52, 0), (59, 0), (60, 50), (69, 50), (70, 0), (74, 0),
                         (75, 50), (89, 50), (91, 6), (92, 6), (94, 0), (100, 0), (109, 0), (110, 50),
                         (199, 50), (200, 0), (FAR, 0), (-FAR, 0)):
            self.assertEqual(due_on(BOOK, BOB, day), part(due), day)
        self.assertEqual(due_on(day=0, person=BOB, book=BOOK), part(96))

    def test_what_lacks(self):
        all_hours = ((-FAR, part(8)),)
        for book, person in (
            ({}, BOB), ({"clerk": ()}, (((0, "clerk"),), all_hours)), (BOOK, ((), all_hours)),
            (BOOK, (((-FAR, "clerk"),), ())), (BOOK, (((-FAR, "boss"),), all_hours)), (BOOK, ((), ())),
            ({"clerk": ((500, CLERK),)}, (((0, "clerk"),), all_hours)),
        ):
            for day in (-50, 0, 5, 60):
                self.assertEqual(due_on(book, person, day), NOUGHT)
            self.assertEqual(due_between(book, person, -50, 90), NOUGHT)
            self.assertEqual(terms(book, person, -50, 90), ())

    def test_hours_of_nought_are_there(self):
        person = (((0, "clerk"),), ((0, NOUGHT),))
        self.assertEqual(due_on(BOOK, person, 3), part(50))
        self.assertEqual(terms(BOOK, person, -5, 5), ((0, 5, CLERK, NOUGHT),))

    def test_day_by_day(self):
        rng = random.Random(71)
        for _ in range(60):
            book, person = random_case(rng)
            for day in range(-30, 60):
                self.assertEqual(due_on(book, person, day), as_part(slow_due(book, person, day)))


class DueBetweenTest(unittest.TestCase):
    def test_day_by_day_wherever_parted(self):
        rng = random.Random(72)
        for _ in range(60):
            book, person = random_case(rng)
            slow = {day: slow_due(book, person, day) for day in range(-60, 90)}
            for _ in range(8):
                one, middle, other = sorted([rng.randint(-60, 90) for _ in range(3)])
                due = due_between(book, person, one, other)
                self.assertEqual(due, as_part(sum([slow[day] for day in range(one, other)], Fraction(0))))
                self.assertEqual(due, plus(due_between(book, person, one, middle),
                                           due_between(book, person, middle, other)))

    def test_stretches_of_none_and_of_one(self):
        for day in (-FAR, -5, 0, 60, 70, 100, FAR):
            self.assertEqual(due_between(BOOK, BOB, day, day), NOUGHT)
            self.assertEqual(due_between(BOOK, BOB, day, day + 1), due_on(BOOK, BOB, day))
        self.assertEqual(due_between({}, ((), ()), 5, 5), NOUGHT)

    def test_long_and_far(self):
        person = (((-FAR, "cook"),), ((-FAR, part(8)),))
        book = {"cook": ((-FAR, COOK),)}
        for begin in (0, -7 * LONG, 7 * LONG, 7 * 10 ** 17):
            for many in (7 * LONG, 7 * 10 ** 15):
                due = due_between(book, person, begin, begin + many)
                self.assertEqual(due, part(many // 7 * 3 * 96))
                self.assertEqual(due_between(book, person, begin, begin + many + 1), plus(due, part(96)))
                self.assertEqual(due_between(book, person, begin + 1, begin + many), plus(due, part(-96)))
                self.assertEqual(due_between(book, person, begin - 1, begin + many), due)
        self.assertEqual(due_between(BOOK, BOB, -10 ** 30, 10 ** 30), due_between(BOOK, BOB, -5, 200))

    def test_no_stretch(self):
        for one, other in ((0, -1), (60, 59), (FAR, -FAR)):
            for book, person in ((BOOK, BOB), ({}, ((), ()))):
                refused(self, NoStretch, due_between, book, person, one, other)
                refused(self, NoStretch, terms, book, person, one, other)

    def test_names_of_arguments_in_any_order(self):
        due = due_between(other=60, one=0, person=BOB, book=BOOK)
        self.assertEqual(due, due_between(BOOK, BOB, 0, 60))
        self.assertEqual(terms(other=60, person=BOB, one=0, book=BOOK), terms(BOOK, BOB, 0, 60))

    def test_nothing_is_changed(self):
        book = dict(BOOK)
        terms(book, BOB, -50, 300)
        due_between(book, BOB, -50, 300)
        due_on(book, BOB, 3)
        self.assertEqual(book, BOOK)
        self.assertEqual(list(book), list(BOOK))


class TermsTest(unittest.TestCase):
    def test_by_hand(self):
        eight, ten, half = part(8), part(10), part(1, 2)
        self.assertEqual(terms(BOOK, BOB, -50, 300), (
            (0, 50, COOK, eight), (50, 60, COOK, ten), (60, 70, CLERK, ten), (75, 90, CLERK, half),
            (90, 100, COOK, half), (110, 200, CLERK, half)))
        self.assertEqual(terms(BOOK, BOB, 55, 61), ((55, 60, COOK, ten), (60, 61, CLERK, ten)))
        self.assertEqual(terms(BOOK, BOB, 70, 75), ())
        self.assertEqual(terms(BOOK, BOB, 55, 55), ())

    def test_those_that_touch_are_unlike(self):
        # Two ranks of one sheet, and a sheet told anew, make no new term.
        book = {"a": ((0, COOK),), "b": ((0, sheet_of(("flat", part(50)))), (30, COOK)), "c": ((0, CLERK),)}
        person = (((0, "a"), (10, "c"), (20, "b"), (40, "a")), ((0, ONE),))
        self.assertEqual(terms(book, person, 0, 99), ((0, 10, COOK, ONE), (10, 30, CLERK, ONE),
                                                      (30, 99, COOK, ONE)))
        # Alike, but apart.
        person = (((0, "a"), (10, None), (12, "a")), ((0, ONE),))
        self.assertEqual(terms(book, person, 0, 99), ((0, 10, COOK, ONE), (12, 99, COOK, ONE)))
        person = (((0, "a"),), ((0, ONE), (10, part(2)), (12, ONE)))
        self.assertEqual(len(terms(book, person, 0, 99)), 3)

    def test_day_by_day(self):
        rng = random.Random(73)
        for _ in range(80):
            book, person = random_case(rng)
            one, other = sorted([rng.randint(-60, 90) for _ in range(2)])
            row = terms(book, person, one, other)
            self.assertIs(type(row), tuple)
            for ahead, behind in zip(row, row[1:]):
                self.assertLessEqual(ahead[1], behind[0])
                if ahead[1] == behind[0]:
                    self.assertNotEqual(ahead[2:], behind[2:])
            days = {day: (sheet, hours) for begin, end, sheet, hours in row for day in range(begin, end)}
            self.assertEqual(len(days), sum([end - begin for begin, end, _, _ in row]))
            for day in range(one, other):
                rank, hours = slow_value(person[0], day), slow_value(person[1], day)
                sheet = slow_value(book.get(rank, ()), day)
                if sheet is None or hours is None:
                    self.assertNotIn(day, days)
                else:
                    self.assertEqual(days.pop(day), (sheet, hours))
            self.assertEqual(days, {})
            total = sum([worth(sheet_due(sheet, hours, begin, end)) for begin, end, sheet, hours in row])
            self.assertEqual(due_between(book, person, one, other), as_part(Fraction(total)))


class SheetDueTest(unittest.TestCase):
    def test_day_by_day(self):
        rng = random.Random(74)
        for _ in range(120):
            sheet, hours = random_sheet(rng), random_part(rng, 0, 12)
            for _ in range(4):
                one = rng.randint(-40, 30)
                other = one + rng.choice((0, 1, 2, len(sheet), len(sheet) + 1, len(sheet) - 1,
                                          rng.randint(0, 60)))
                slow = sum([slow_pays(sheet, day, hours) for day in range(one, other)], Fraction(0))
                self.assertEqual(sheet_due(sheet, hours, one, other), as_part(slow))

    def test_of_rules(self):
        rng = random.Random(75)
        for _ in range(25):
            sheet, hours = sheet_of(random_rule(rng, 9)), random_part(rng, 0, 12)
            one = rng.randint(-40, 30)
            for other in (one, one + 12, one + 13, one + 11, one + 50):
                slow = sum([slow_pays(sheet, day, hours) for day in range(one, other)], Fraction(0))
                self.assertEqual(sheet_due(sheet, hours, one, other), as_part(slow))

    def test_periods_and_odd_days_far_off(self):
        odd = ((-FAR, flat(part(5))), (LONG, flat(part(7))), (FAR, flat(part(9))))
        sheet = Sheet([flat(part(1)), flat(part(2)), flat(part(3))], odd=odd)
        for one in (0, 3 * LONG, -3 * 10 ** 17):
            self.assertEqual(sheet_due(sheet, ONE, one, one + 3), part(6 + (7 - 2) * (one <= LONG < one + 3)))
            self.assertEqual(sheet_due(sheet, ONE, one, one + 2), part(3))
            self.assertEqual(sheet_due(sheet, ONE, one, one + 4), part(7))
        self.assertEqual(LONG % 3, 1)
        self.assertEqual(sheet_due(sheet, ONE, LONG, LONG + 1), part(7))
        self.assertEqual(sheet_due(sheet, ONE, 0, LONG), part(2 * (LONG - 1) + 1))
        self.assertEqual(sheet_due(sheet, ONE, 0, LONG + 1), part(2 * (LONG - 1) + 1 + 7))
        all_days = 2 * FAR + 1
        rests = [sheet.pays(day, ONE) for day in (-FAR, LONG, FAR)]
        self.assertEqual(rests, [part(5), part(7), part(9)])
        slow = 6 * (all_days // 3) + sum([day % 3 + 1 for day in range(-FAR, -FAR + all_days % 3)])
        slow += sum([pay - (day % 3 + 1) for day, pay in ((-FAR, 5), (LONG, 7), (FAR, 9))])
        self.assertEqual(sheet_due(sheet, ONE, -FAR, FAR + 1), part(slow))

    def test_longest_period(self):
        sheet = Sheet([flat(part(number)) for number in range(MOST_PERIOD)])
        whole = MOST_PERIOD * (MOST_PERIOD - 1) // 2
        for one, other, due in (
            (0, MOST_PERIOD, whole), (5, MOST_PERIOD + 5, whole), (0, MOST_PERIOD - 1, whole - 5039),
            (0, MOST_PERIOD + 1, whole), (-1, MOST_PERIOD, whole + 5039), (0, MOST_PERIOD * LONG, whole * LONG),
            (3, MOST_PERIOD * LONG + 5, whole * LONG + 3 + 4),
        ):
            self.assertEqual(sheet_due(sheet, ONE, one, other), part(due))

    def test_is_told_at_once(self):
        lines = [line_of([(NOUGHT, part(at)), (part(8), part(96))], part(18)) for at in range(7)]
        sheet = Sheet([lines[at * at % 7] for at in range(MOST_PERIOD)], odd=[(3 * at, PAY) for at in range(400)])
        start = time.perf_counter()
        for at in range(50):
            sheet_due(sheet, part(9, 7), at, 10 ** 18 - at)
        self.assertLess(time.perf_counter() - start, 10)

    def test_refused(self):
        for hours in ((-1, 1), (-1, 1000), (-10 ** 6, 1)):
            refused(self, NoAmount, sheet_due, COOK, hours, 0, 5)
            refused(self, NoAmount, sheet_due, COOK, hours, 5, 0)
            refused(self, NoAmount, sheet_due, COOK, hours, 0, 0)
        for hours in (NOUGHT, ONE):
            refused(self, NoStretch, sheet_due, COOK, hours, 5, 4)
            refused(self, NoStretch, sheet_due, COOK, hours, FAR, -FAR)
            self.assertEqual(sheet_due(COOK, hours, 5, 5), NOUGHT)
        self.assertEqual(sheet_due(other=7, one=0, hours=part(10), sheet=COOK), part(396))


class InterfaceTest(unittest.TestCase):
    def test_names_of_arguments(self):
        for name, told in (
            ("due_on", ["book", "person", "day"]), ("due_between", ["book", "person", "one", "other"]),
            ("terms", ["book", "person", "one", "other"]), ("sheet_due", ["sheet", "hours", "one", "other"]),
        ):
            self.assertEqual(parameters(getattr(dues, name)), told)
            self.assertEqual(getattr(dues, name).__module__, "paymill.dues")


if __name__ == "__main__":
    unittest.main()
