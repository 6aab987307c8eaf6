import random
import unittest
from fractions import Fraction

from common import (
    as_part, bush, chain, odd_things, parameters, random_leaf, random_line, random_part,
    random_rule, refused, slow_pay, slow_y, worth,
)
from paymill import sheets
from paymill.days import MOST_PERIOD, Days, all_days, either, no_days
from paymill.errors import NoAmount, NoRule, TooLong
from paymill.lines import flat, is_line, line_of, unlike_at
from paymill.parts import NOUGHT, ONE, part
from paymill.rules import pay_of
from paymill.sheets import Sheet, mixed_sheets, parted, sheet_of

FAR = 10 ** 18
WEEK = Days(7, (0, 1, 2))
OVERTIME = line_of([((0, 1), (0, 1)), ((8, 1), (96, 1))], (18, 1))
FREE = ("flat", NOUGHT)
WORK = ("hours", OVERTIME)
NIL = flat(NOUGHT)
UNIT = flat(ONE)
HOURS = (Fraction(0), Fraction(1, 7), Fraction(3), Fraction(8), Fraction(25, 2), Fraction(10 ** 20))


def flats(*numbers):
    return [flat(part(number)) for number in numbers]


def line_by_words(rows, odd, day):
    """The line of a day by the words of 4.2."""
    for odd_day, line in odd:
        if odd_day == day:
            return line
    return rows[day % len(rows)]


def random_sheet(rng, lines, periods=(1, 2, 3, 4, 6), reach=12):
    period = rng.choice(periods)
    days = rng.sample(range(-reach, reach), rng.randint(0, 4))
    return Sheet([rng.choice(lines) for _ in range(period)],
                 odd=[(day, rng.choice(lines)) for day in days])


def watched_hours(rule):
    """Hours at which lines of a rule bend, and some between and behind these."""
    found = set(HOURS)
    if rule[0] == "hours":
        found.update([worth(x) for x, _ in rule[1][0]])
    for inner in rule[1:]:
        if type(inner) is tuple and type(inner[0]) is str:
            found.update(watched_hours(inner))
    return found


class Watched(unittest.TestCase):
    def check_normal(self, sheet):
        self.assertIs(type(sheet), Sheet)
        self.assertIs(type(sheet.rows), tuple)
        self.assertIs(type(sheet.odd), tuple)
        many = len(sheet.rows)
        for shorter in range(1, many):
            self.assertTrue(any(sheet.rows[(at + shorter) % many] != sheet.rows[at]
                                for at in range(many)))
        days = [day for day, _ in sheet.odd]
        self.assertEqual(days, sorted(set(days)))
        for pair in sheet.odd:
            self.assertIs(type(pair), tuple)
            self.assertNotEqual(pair[1], sheet.rows[pair[0] % many])
        for line in [*sheet.rows, *[line for _, line in sheet.odd]]:
            self.assertIs(is_line(line), True)


class MadeSheetTest(Watched):
    def test_by_words(self):
        rng = random.Random(51)
        for _ in range(300):
            lines = [random_line(rng, 2) for _ in range(rng.randint(1, 3))]
            rows = [rng.choice(lines) for _ in range(rng.randint(1, 12))]
            days = rng.sample(range(-20, 20), rng.randint(0, 8))
            odd = [(day, rng.choice(lines)) for day in days]
            sheet = Sheet(rows, odd=odd)
            self.check_normal(sheet)
            for day in range(-30, 30):
                line = line_by_words(rows, odd, day)
                self.assertEqual(sheet.line_on(day), line)
                hours = rng.choice(HOURS)
                pay = sheet.pays(day, as_part(hours))
                self.assertEqual(pay, as_part(slow_y(line, hours)))

    def test_as_it_stands(self):
        sheet = Sheet(flats(1, 2, 1, 2), odd=[(5, UNIT), (4, UNIT), (-2, flat((2, 1))), (-1, NIL)])
        self.assertEqual(sheet.rows, tuple(flats(1, 2)))
        self.assertEqual(sheet.odd, ((-2, flat((2, 1))), (-1, NIL), (5, UNIT)))
        self.assertEqual(Sheet(rows=(NIL,)).rows, (NIL,))
        self.assertEqual(Sheet([NIL] * MOST_PERIOD).rows, (NIL,))
        self.assertEqual(Sheet([NIL]).odd, ())
        self.assertEqual(Sheet(flats(1, 2, 1)).rows, tuple(flats(1, 2, 1)))
        self.assertEqual(Sheet(flats(1, 1, 2)).rows, tuple(flats(1, 1, 2)))

    def test_odd_days_that_are_odd_no_more(self):
        odd = [(day, (NIL, UNIT)[day % 2]) for day in range(-9, 9)]
        self.assertEqual(Sheet([NIL, UNIT], odd=odd).odd, ())
        self.assertEqual(Sheet([NIL, UNIT, NIL, UNIT], odd=odd).odd, ())
        self.assertEqual(Sheet([NIL], odd=odd).odd, tuple([pair for pair in odd if pair[1] == UNIT]))

    def test_longest_rows(self):
        rows = flats(*range(MOST_PERIOD))
        sheet = Sheet(rows, odd=[(-1, NIL)])
        self.assertEqual(sheet.rows, tuple(rows))
        self.assertEqual(sheet.pays(MOST_PERIOD * FAR + 77, ONE), (77, 1))
        self.assertEqual(sheet.pays(-1, ONE), NOUGHT)
        self.assertEqual(sheet.pays(-2, ONE), (MOST_PERIOD - 2, 1))
        self.assertEqual(Sheet(flats(*range(2520)) * 2).rows, tuple(flats(*range(2520))))
        almost = flats(*range(2520)) + flats(*range(2519)) + [UNIT]
        self.assertEqual(len(Sheet(almost)), MOST_PERIOD)

    def test_many_odd_days(self):
        odd = [(FAR - 3 * at, UNIT) for at in range(400)]
        sheet = Sheet([NIL], odd=odd)
        self.assertEqual(sheet.odd, tuple(sorted(odd)))
        for day in (FAR, FAR - 3 * 399, FAR - 3 * 77):
            self.assertEqual(sheet.pays(day, ONE), ONE)
            self.assertEqual(sheet.pays(day + 1, ONE), NOUGHT)
            self.assertEqual(sheet.pays(day - 1, ONE), NOUGHT)

    def test_refused(self):
        for rows in ((), [], [NIL] * (MOST_PERIOD + 1), (UNIT,) * (2 * MOST_PERIOD)):
            refused(self, NoRule, Sheet, rows)
            refused(self, NoRule, Sheet, rows, odd=((0, UNIT), (0, UNIT)))
        for odd in (((3, UNIT), (3, NIL)), [(3, UNIT), (4, NIL), (3, UNIT)], [(0, NIL), (0, NIL)],
                    [(-FAR, UNIT), (0, UNIT), (-FAR, UNIT)]):
            refused(self, NoRule, Sheet, [NIL], odd=odd)
        Sheet([NIL] * MOST_PERIOD, odd=((3, UNIT), (-3, NIL)))

    def test_pays_no_hours_below_0(self):
        sheet = Sheet([NIL, UNIT], odd=[(3, OVERTIME)])
        for day in (0, 1, 3):
            for hours in ((-1, 1), (-1, 10 ** 6)):
                refused(self, NoAmount, sheet.pays, day, hours)
        self.assertEqual(sheet.pays(hours=(10, 1), day=3), (132, 1))
        self.assertEqual(sheet.line_on(day=1), UNIT)

    def test_written(self):
        for sheet, text in (
            (Sheet(flats(*range(7)), odd=((9, NIL), (8, NIL))), "7 days, 2 odd"),
            (Sheet([NIL], odd=[(0, UNIT)]), "1 days, 1 odd"), (Sheet([NIL, NIL]), "1 days, 0 odd"),
            (Sheet(flats(*range(MOST_PERIOD))), "5040 days, 0 odd"),
        ):
            self.assertEqual(str(sheet), text)
            self.assertEqual(repr(sheet), text)
            self.assertEqual(len(sheet), int(text.split(" ")[0]))

    def test_nothing_handed_in_is_changed_or_kept(self):
        rows, odd = [UNIT, NIL, UNIT, NIL], [(7, UNIT), (3, UNIT), (4, UNIT)]
        sheet = Sheet(rows, odd=odd)
        self.assertEqual((rows, odd), ([UNIT, NIL, UNIT, NIL], [(7, UNIT), (3, UNIT), (4, UNIT)]))
        rows[0], odd[0] = NIL, (9, NIL)
        rows.clear()
        self.assertEqual((sheet.rows, sheet.odd), ((UNIT, NIL), ((3, UNIT), (7, UNIT))))


class EqualTest(Watched):
    def test_equal_where_they_pay_alike(self):
        rng = random.Random(52)
        lines = [NIL, UNIT, OVERTIME]
        some = [random_sheet(rng, lines[:2], periods=(1, 2, 4), reach=2) for _ in range(40)]
        some.extend([random_sheet(rng, lines, reach=3) for _ in range(20)])
        for one in some:
            for other in some:
                alike = all([one.line_on(day) == other.line_on(day) for day in range(-16, 16)])
                self.assertIs(one == other, alike)
                self.assertIs(one != other, not alike)
                self.assertIs(parted(one, other) is None, alike)

    def test_equal_with_anything(self):
        sheet = Sheet([NIL, UNIT], odd=[(3, OVERTIME)])
        for thing in odd_things() + [WEEK, str(sheet), sheet.rows, (sheet.rows, sheet.odd), WORK]:
            self.assertIs(sheet == thing, False)
            self.assertIs(sheet != thing, True)
        self.assertIs(sheet == Sheet([NIL, UNIT] * 3, odd=[(3, OVERTIME), (4, NIL)]), True)
        for other in (Sheet([NIL, UNIT]), Sheet([UNIT, NIL], odd=[(3, OVERTIME)]),
                      Sheet([NIL, UNIT], odd=[(3, NIL)]), Sheet([NIL, UNIT], odd=[(4, OVERTIME)]),
                      Sheet([NIL, UNIT], odd=[(3, OVERTIME), (5, OVERTIME)])):
            self.assertIs(sheet == other, False)

    def test_rules_that_pay_alike(self):
        rule = ("on", WEEK, WORK, FREE)
        many = (
            ("on", Days(14, (0, 1, 2, 7, 8, 9)), WORK, FREE),
            ("on", Days(7, (3, 4, 5, 6)), FREE, WORK), ("sum", rule, FREE), ("most", rule, rule),
            ("times", (2, 3), ("times", (3, 2), rule)), ("least", ("times", (2, 1), rule), rule),
            ("on", no_days(), ("flat", (9, 1)), rule), ("on", all_days(), rule, ("flat", (9, 1))),
            ("sum", ("on", WEEK, ("flat", (-5, 1)), FREE), ("on", WEEK, ("sum", WORK, ("flat", (5, 1))),
                                                           FREE)),
        )
        for other in many:
            self.assertEqual(sheet_of(other), sheet_of(rule))
            self.assertIsNone(parted(sheet_of(other), sheet_of(rule)))

    def test_alike_just_where_rules_pay_alike(self):
        rng = random.Random(53)
        few = [random_rule(rng, 5, periods=(1, 2)) for _ in range(15)]
        days = Days(2, (0,), turned=(5,))
        leaves = [FREE, ("flat", ONE), ("times", (1, 2), ("flat", (2, 1)))]
        few.extend([("on", days, one, other) for one in leaves for other in leaves])
        few.extend([("most", one, other) for one in leaves for other in leaves])
        for one in few:
            for other in few:
                found = parted(sheet_of(one), sheet_of(other))
                self.assertIs(found is None, sheet_of(one) == sheet_of(other))
                if found is not None:
                    self.assertNotEqual(pay_of(one, *found), pay_of(other, *found))
                    continue
                for day in range(-25, 25):
                    for hours in watched_hours(one) | watched_hours(other):
                        self.assertEqual(slow_pay(one, day, hours), slow_pay(other, day, hours))


class SheetOfTest(Watched):
    def check_pays(self, rule, sheet, days):
        self.check_normal(sheet)
        for day in days:
            for hours in watched_hours(rule):
                pay = worth(sheet.pays(day, as_part(hours)))
                self.assertEqual(pay, slow_pay(rule, day, hours))

    def test_each_word(self):
        for rule in (("flat", (-7, 3)), WORK, ("on", WEEK, WORK, FREE), ("sum", WORK, ("flat", ONE)),
                     ("most", WORK, ("flat", (60, 1))), ("least", ("flat", (60, 1)), WORK),
                     ("times", (-1, 2), WORK), ("times", NOUGHT, ("on", WEEK, WORK, FREE))):
            self.check_pays(rule, sheet_of(rule), range(-9, 9))
        self.assertEqual(sheet_of(rule=("on", WEEK, WORK, FREE)),
                         Sheet([OVERTIME] * 3 + [NIL] * 4))
        self.assertEqual(sheet_of(("on", Days(7, (0,), turned=(0, 12)), WORK, FREE)),
                         Sheet([OVERTIME] + [NIL] * 6, odd=[(0, NIL), (12, OVERTIME)]))
        self.assertEqual(sheet_of(("times", NOUGHT, ("on", WEEK, WORK, FREE))), Sheet([NIL]))

    def test_day_by_day(self):
        rng = random.Random(54)
        for _ in range(120):
            rule = random_rule(rng, rng.choice((3, 7, 12, 25)))
            far = [FAR + rng.randint(0, 30), -FAR - rng.randint(0, 30)]
            self.check_pays(rule, sheet_of(rule), [*range(-22, 22, rng.randint(1, 3)), *far])

    def test_great_rules(self):
        rng = random.Random(55)
        days = [Days(period, rng.sample(range(period), period // 2), turned=(period, -period))
                for period in (5, 7, 9, 16)]
        rule = random_leaf(rng)
        for at in range(9):
            rule = ("sum" if at % 2 else "most", ("on", days[at % 4], random_leaf(rng), FREE), rule)
        sheet = sheet_of(rule)
        self.assertEqual(len(sheet), MOST_PERIOD)
        for _ in range(300):
            day = rng.choice((rng.randint(-40, 40), rng.randint(-FAR, FAR)))
            hours = rng.choice(HOURS)
            self.assertEqual(worth(sheet.pays(day, as_part(hours))), slow_pay(rule, day, hours))
        self.assertEqual(sheet_of(bush(40)), Sheet([flat((20, 3))]))
        self.assertEqual(sheet_of(chain(12)), Sheet([flat((12, 1))]))

    def test_no_rule(self):
        long = ("on", Days(5039, (0,)), ("on", Days(5040, (0,)), FREE, FREE), FREE)
        for thing in odd_things() + [WEEK, OVERTIME, Sheet([NIL]), list(WORK), ("hours", WEEK),
                                     bush(41), chain(13), ("sum", long, list(FREE))]:
            refused(self, NoRule, sheet_of, thing)

    def test_too_long(self):
        for periods, many in (((5040, 5039), 5040 * 5039), ((71, 72), 5112), ((11, 5040), 55440),
                              ((7, 8, 9, 11), 5544), ((5040, 32), 10080), ((64, 81), 5184)):
            rule = FREE
            for period in periods:
                # What it pays goes round by one day; its days don't.
                rule = ("on", Days(period, (0,)), FREE, rule)
            self.assertEqual(refused(self, TooLong, sheet_of, rule).many, many)
            self.assertEqual(refused(self, TooLong, sheet_of, ("times", NOUGHT, rule)).many, many)
            days = [Days(period, (0,)) for period in periods]
            self.assertEqual(refused(self, TooLong, sheet_of, ("sum", ("on", days[0], FREE, WORK), (
                "most", WORK, rule))).many, many)

    def test_too_long_of_many(self):
        rule = FREE
        for period in (4999, 4993, 4987, 4973):
            rule = ("on", Days(period, (0,)), FREE, rule)
        self.assertEqual(refused(self, TooLong, sheet_of, rule).many, 4999 * 4993 * 4987 * 4973)

    def test_just_not_too_long(self):
        for periods, many in (((63, 80), 5040), ((16, 9, 5, 7), 5040), ((5040,), 5040),
                              ((71, 70), 4970), ((5039,), 5039)):
            rule = ("flat", ONE)
            for period in periods:
                rule = ("on", Days(period, (0,)), FREE, rule)
            sheet = sheet_of(rule)
            self.assertEqual(len(sheet), many)
            self.check_pays(rule, sheet, range(0, 2 * many, 71))

    def test_least_periods_count(self):
        rule = ("on", Days(22, tuple(range(0, 22, 2))), ("on", Days(5040, (3,)), WORK, FREE), FREE)
        self.assertEqual(sheet_of(rule), Sheet([NIL]))
        rule = ("on", Days(22, tuple(range(1, 22, 2))), ("on", Days(5040, (3,)), WORK, FREE), FREE)
        self.assertEqual(sheet_of(rule).rows[3], OVERTIME)
        self.assertEqual(len(sheet_of(rule)), 5040)

    def test_told_days_with_many_turned(self):
        told = no_days()
        for begin in range(0, 600, 60):
            told = either(told, Days(1, (), turned=[3 * (begin + at) for at in range(60)]))
        sheet = sheet_of(("on", told, WORK, FREE))
        self.assertEqual(sheet.odd, tuple([(3 * at, OVERTIME) for at in range(600)]))

    def test_rules_are_not_kept(self):
        days = Days(7, (0, 1), turned=(5,))
        rule = ("on", days, WORK, FREE)
        sheet = sheet_of(rule)
        self.assertEqual(str(days), "7:0,1;5")
        days.turned = ()
        self.assertEqual(str(sheet), "7 days, 1 odd")
        self.assertEqual(sheet.pays(5, ONE), (12, 1))
        self.assertIsNot(sheet_of(WORK), sheet_of(WORK))


class MixedTest(Watched):
    def test_against_both(self):
        rng = random.Random(56)
        for _ in range(150):
            lines = [random_line(rng) for _ in range(3)]
            one, other = random_sheet(rng, lines), random_sheet(rng, lines)
            for word, choose in (("sum", sum), ("most", max), ("least", min)):
                told = mixed_sheets(word, one, other)
                self.check_normal(told)
                for day in [*range(-14, 14), FAR, -FAR]:
                    for hours in HOURS:
                        asked = as_part(hours)
                        pair = [worth(one.pays(day, asked)), worth(other.pays(day, asked))]
                        self.assertEqual(worth(told.pays(day, asked)), choose(pair))

    def test_normal_again(self):
        one, other = Sheet(flats(0, 1), odd=[(3, NIL)]), Sheet(flats(1, 0), odd=[(3, UNIT)])
        self.assertEqual(mixed_sheets("sum", one, other), Sheet([UNIT]))
        self.assertEqual(mixed_sheets(other=other, one=one, word="most"), Sheet([UNIT]))
        self.assertEqual(mixed_sheets("least", one, other), Sheet([NIL]))
        self.assertEqual(one, Sheet(flats(0, 1), odd=[(3, NIL)]))

    def test_each_pair_of_lines_at_odd_days(self):
        one = Sheet(flats(1, 2), odd=[(4, flat((5, 1))), (7, NIL)])
        other = Sheet(flats(10, 20, 30), odd=[(7, flat((70, 1))), (9, NIL)])
        told = mixed_sheets("sum", one, other)
        self.assertEqual(told.rows, tuple(flats(11, 22, 31, 12, 21, 32)))
        self.assertEqual(told.odd, ((4, flat((25, 1))), (7, flat((70, 1))), (9, flat((2, 1)))))

    def test_no_word(self):
        long, longer = Sheet(flats(*range(5039))), Sheet(flats(*range(5040)))
        for word in odd_things() + ["flat", "on", "times", "hours", "SUM", "sum ", "mos", "", ("sum",)]:
            refused(self, NoRule, mixed_sheets, word, Sheet([NIL]), Sheet([UNIT]))
            refused(self, NoRule, mixed_sheets, word, long, longer)

    def test_too_long(self):
        for one, other, many in ((5039, 5040, 5039 * 5040), (71, 72, 5112), (32, 5040, 10080),
                                 (81, 64, 5184)):
            first, second = Sheet(flats(*range(one))), Sheet(flats(*range(other)))
            for word in ("sum", "most", "least"):
                self.assertEqual(refused(self, TooLong, mixed_sheets, word, first, second).many, many)

    def test_too_long_whatever_would_come(self):
        # No less than the first one's lines is in the second one.
        first, second = Sheet(flats(*range(5039))), Sheet([flat((-1, 1)), flat((-2, 1))])
        self.assertEqual(refused(self, TooLong, mixed_sheets, "most", first, second).many, 10078)

    def test_just_not_too_long(self):
        told = mixed_sheets("sum", Sheet(flats(*range(63))), Sheet(flats(*range(0, 8000, 100))))
        self.assertEqual(len(told), 5040)
        for day in (0, 1, 5039, 5040 * FAR - 1, 777):
            self.assertEqual(told.pays(day, ONE), (day % 63 + day % 80 * 100, 1))
        told = mixed_sheets("most", Sheet(flats(*range(5040))), Sheet(flats(*range(5040, 0, -1))))
        self.assertEqual(told.pays(7, ONE), (5033, 1))


class PartedTest(Watched):
    def check(self, one, other, days):
        found = parted(one, other)
        unlike = [day for day in days if one.line_on(day) != other.line_on(day)]
        wanted = min([day for day in unlike if day >= 0],
                     default=max(unlike, default=None))
        if wanted is None:
            self.assertIsNone(found)
            return
        day, hours = found
        self.assertIs(type(found), tuple)
        self.assertEqual(day, wanted)
        self.assertEqual(hours, unlike_at(one.line_on(day), other.line_on(day)))
        self.assertNotEqual(one.pays(day, hours), other.pays(day, hours))

    def test_day_by_day(self):
        rng = random.Random(57)
        for _ in range(400):
            lines = [random_line(rng, 2) for _ in range(rng.randint(1, 3))]
            one = random_sheet(rng, lines)
            other = random_sheet(rng, lines)
            if rng.randint(0, 1):
                odd = rng.sample(range(-12, 12), 2)
                other = Sheet(one.rows, odd=[(day, rng.choice(lines)) for day in odd])
            self.check(one, other, range(-40, 40))

    def test_from_0_on_and_below(self):
        plain = Sheet([NIL])
        for days, wanted in (((3, -3), 3), ((0, -1), 0), ((-1, -9), -1), ((-9,), -9), ((9, 5), 5),
                             ((FAR, -1), FAR), ((-FAR, -FAR - 1), -FAR)):
            other = Sheet([NIL], odd=[(day, UNIT) for day in days])
            self.assertEqual(parted(plain, other), (wanted, NOUGHT))
            self.assertEqual(parted(other=plain, one=other), (wanted, NOUGHT))
        self.assertIsNone(parted(plain, Sheet([NIL, NIL])))

    def test_hours(self):
        for line, hours in ((UNIT, NOUGHT), (line_of([(NOUGHT, NOUGHT)], ONE), ONE),
                            (line_of([(NOUGHT, NOUGHT), ((8, 1), NOUGHT)], ONE), (9, 1)),
                            (line_of([(NOUGHT, NOUGHT), ((2, 1), ONE)], (-1, 1)), (2, 1))):
            self.assertEqual(parted(Sheet([NIL]), Sheet([line])), (0, hours))

    def test_odd_days_that_take_back_what_is_unlike(self):
        odd = [(5039 + 5040 * at, NIL) for at in range(400)]
        other = Sheet([NIL] * 5039 + [UNIT], odd=odd)
        self.assertEqual(parted(Sheet([NIL]), other), (5039 + 5040 * 400, NOUGHT))
        self.assertEqual(parted(Sheet([NIL]), Sheet([UNIT], odd=odd + [(0, NIL), (1, NIL)])), (2, NOUGHT))

    def test_whatever_the_periods(self):
        one, other = Sheet([UNIT] + [NIL] * 5038), Sheet([UNIT] + [NIL] * 5039)
        self.assertEqual(parted(one, other), (5039, NOUGHT))
        odd = [(5039, NIL), (5040, NIL), (10078, NIL)]
        self.assertEqual(parted(Sheet(one.rows, odd=odd), other), (5040, NOUGHT))
        odd = [(5039, NIL), (5040, UNIT), (10078, NIL)]
        self.assertEqual(parted(Sheet(one.rows, odd=odd), other), (10080, NOUGHT))
        rows = flats(*[at // 2 for at in range(5040)])
        shifted = rows[:5038] + [UNIT, UNIT]
        self.assertEqual(parted(Sheet(rows), Sheet(shifted)), (5038, NOUGHT))
        self.assertEqual(parted(Sheet(rows[:5039]), Sheet(rows)), (5039, NOUGHT))

    def test_alike_as_long_as_can_be(self):
        # By 13 and by 8 days, alike for 19: of such two none parts later.
        word = "0100101001001010010"
        one = Sheet(flats(*[int(sign) for sign in word[:13]]))
        other = Sheet(flats(*[int(sign) for sign in word[:8]]))
        self.assertEqual((len(one), len(other)), (13, 8))
        self.check(one, other, range(-200, 200))
        self.assertEqual(parted(one, other)[0], 19)


class InterfaceTest(unittest.TestCase):
    def test_names_of_arguments(self):
        for name, told in (("sheet_of", ["rule"]), ("mixed_sheets", ["word", "one", "other"]),
                           ("parted", ["one", "other"]), ("Sheet", ["rows", "*odd=()"])):
            self.assertEqual(parameters(getattr(sheets, name)), told)
            self.assertEqual(getattr(sheets, name).__module__, "paymill.sheets")

    def test_methods_of_sheets_are_their_own(self):
        for name in ("__init__", "line_on", "pays", "__eq__", "__len__", "__str__", "__repr__"):
            self.assertIn(name, vars(Sheet))
        self.assertEqual(parameters(Sheet.line_on), ["day"])
        self.assertEqual(parameters(Sheet.pays), ["day", "hours"])

    def test_told_parts_are_parts(self):
        rng = random.Random(58)
        for _ in range(20):
            sheet = sheet_of(random_rule(rng, 20))
            pay = sheet.pays(3, random_part(rng, 0))
            self.assertEqual(pay, part(*pay))


if __name__ == "__main__":
    unittest.main()
