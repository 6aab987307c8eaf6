import random
import unittest
from fractions import Fraction

from common import (
    Contrary, as_part, bush, chain, odd_things, parameters, random_rule, refused, slow_pay,
    tuples_of, worth,
)
from paymill import rules
from paymill.days import Days, all_days
from paymill.errors import NoAmount, NoRule
from paymill.lines import flat, line_of
from paymill.parts import NOUGHT, ONE
from paymill.rules import is_rule, pay_of

FAR = 10 ** 18
WEEK = Days(7, (0, 1, 2))
OVERTIME = line_of([((0, 1), (0, 1)), ((8, 1), (96, 1))], (18, 1))
FREE = ("flat", NOUGHT)
WORK = ("hours", OVERTIME)
BENT_NOWHERE = ((((0, 1), (0, 1)), ((8, 1), (96, 1))), (12, 1))
ONE_EACH = (
    ("flat", (-7, 3)), WORK, ("on", WEEK, WORK, FREE), ("sum", WORK, FREE), ("most", WORK, FREE),
    ("least", FREE, WORK), ("times", (-1, 2), WORK),
)


class IsRuleTest(unittest.TestCase):
    def test_rules(self):
        for rule in ONE_EACH:
            self.assertIs(is_rule(rule), True)
        self.assertIs(is_rule(thing=("times", (10 ** 40, 3), ("flat", (-10 ** 50, 1)))), True)
        many_knots = [((at, 1), (at % 2, 1)) for at in range(600)]
        self.assertIs(is_rule(("hours", line_of(many_knots, ONE))), True)

    def test_random_rules(self):
        rng = random.Random(41)
        for _ in range(100):
            self.assertIs(is_rule(random_rule(rng, 40)), True)

    def test_odd_things_are_none(self):
        for thing in odd_things() + [WEEK, OVERTIME, ONE, "flat", ("flat",), list(WORK)]:
            self.assertIs(is_rule(thing), False)

    def test_odd_things_in_place_of_what_a_rule_bears(self):
        for rule in ONE_EACH:
            for at in range(len(rule)):
                for thing in odd_things() + [WEEK, OVERTIME, BENT_NOWHERE, list(WORK), str(WEEK)]:
                    odd = (*rule[:at], thing, *rule[at + 1:])
                    self.assertIs(is_rule(odd) and odd != rule, False, (rule, at))

    def test_wrong_words_and_lengths(self):
        for rule in ONE_EACH:
            self.assertIs(is_rule(rule[:-1]), False)
            self.assertIs(is_rule(rule + rule[-1:]), False)
            self.assertIs(is_rule((rule[0].upper(), *rule[1:])), False)
            self.assertIs(is_rule((rule[0] + " ", *rule[1:])), False)
            self.assertIs(is_rule(("", *rule[1:])), False)
            self.assertIs(is_rule((rule,)), False)
            self.assertIs(is_rule(list(rule)), False)
        self.assertIs(is_rule(("rule", *WORK[1:])), False)
        self.assertIs(is_rule(("sum", WORK, list(FREE))), False)
        self.assertIs(is_rule(("on", WORK, WEEK, FREE)), False)
        self.assertIs(is_rule(("times", WORK, ONE)), False)

    def test_what_is_no_part_no_line_no_days(self):
        for wrong in ((True, 1), (1, True), (2, 2), (0, 2), (1, 0), 1, [1, 1], (1, -1)):
            self.assertIs(is_rule(("flat", wrong)), False)
            self.assertIs(is_rule(("times", wrong, FREE)), False)
            self.assertIs(is_rule(("hours", (((NOUGHT, wrong),), ONE))), False)
        self.assertIs(is_rule(("hours", BENT_NOWHERE)), False)
        self.assertIs(is_rule(("hours", ((((1, 1), ONE),), ONE))), False)
        self.assertIs(is_rule(("hours", ((), ONE))), False)
        for wrong in (7, "7:0,1,2", (7, (0, 1, 2)), None, True, Contrary()):
            self.assertIs(is_rule(("on", wrong, FREE, FREE)), False)

    def test_forty_tuples_and_forty_one(self):
        for many in range(1, 60):
            rule = bush(many)
            self.assertEqual(tuples_of(rule)[0], many)
            self.assertIs(is_rule(rule), many <= 40)
        self.assertIs(is_rule(("on", WEEK, bush(20), bush(19))), True)
        self.assertIs(is_rule(("on", WEEK, bush(20), bush(20))), False)
        self.assertIs(is_rule(("on", WEEK, bush(19), bush(21))), False)

    def test_twelve_within_one_another_and_thirteen(self):
        for word in ("sum", "most", "least", "times"):
            for deep in range(1, 16):
                rule = chain(deep, word)
                self.assertEqual(tuples_of(rule)[1], deep)
                self.assertIs(is_rule(rule), deep <= 12)
        for word, *ahead in (("on", WEEK), ("sum",), ("most",), ("least",)):
            for deep in (11, 12):
                for pair in ((chain(deep), FREE), (FREE, chain(deep)), (chain(3), chain(deep))):
                    self.assertIs(is_rule((word, *ahead, *pair)), deep == 11)

    def test_what_stands_there_twice_counts_twice(self):
        rule = FREE
        for deep in range(2, 18):
            rule = ("sum", rule, rule)
            self.assertIs(is_rule(rule), 2 ** deep - 1 <= 40)


class PayTest(unittest.TestCase):
    def test_by_words(self):
        day, hours = 9, (10, 1)
        for rule, pay in zip(ONE_EACH, ((-7, 3), (132, 1), (132, 1), (132, 1), (132, 1), NOUGHT,
                                        (-66, 1))):
            self.assertEqual(pay_of(rule, day, hours), pay)
        self.assertEqual(pay_of(("on", WEEK, WORK, FREE), 10, hours), NOUGHT)
        self.assertEqual(pay_of(hours=(1, 3), day=-7, rule=("on", WEEK, WORK, FREE)), (4, 1))
        both = ("sum", ("flat", (1, 2)), ("flat", (1, 3)))
        self.assertEqual(pay_of(both, day, hours), (5, 6))
        self.assertEqual(pay_of(("least", ("flat", (1, 2)), ("flat", (1, 3))), day, hours), (1, 3))
        self.assertEqual(pay_of(("most", ("flat", (1, 3)), ("flat", (1, 2))), day, hours), (1, 2))
        self.assertEqual(pay_of(("times", (2, 3), ("flat", (3, 4))), day, hours), (1, 2))

    def test_as_slowly(self):
        rng = random.Random(42)
        for _ in range(150):
            rule = random_rule(rng, rng.choice((1, 5, 12, 40)))
            for _ in range(12):
                day = rng.choice((rng.randint(-30, 30), FAR + rng.randint(0, 11), -FAR))
                hours = rng.choice((Fraction(0), Fraction(rng.randint(0, 400), rng.randint(1, 9)),
                                    Fraction(10 ** 18), Fraction(10 ** 40, 7)))
                pay = pay_of(rule, day, as_part(hours))
                self.assertEqual(worth(pay), slow_pay(rule, day, hours))
                self.assertEqual(pay, as_part(worth(pay)))

    def test_odd_days(self):
        rule = ("on", Days(7, (0, 1, 2), turned=(1, -7 * FAR, 7 * FAR + 5)), ("flat", ONE), FREE)
        for day, pay in ((1, NOUGHT), (8, ONE), (0, ONE), (3, NOUGHT), (-7 * FAR, NOUGHT),
                         (-7 * FAR + 1, ONE), (7 * FAR + 5, ONE), (7 * FAR + 6, NOUGHT)):
            self.assertEqual(pay_of(rule, day, NOUGHT), pay)
        self.assertEqual(pay_of(("on", all_days(), WORK, FREE), FAR, ONE), (12, 1))

    def test_periods_however_long_together(self):
        rule = ("on", Days(5040, (1,)), ("flat", ONE), ("on", Days(5039, (1,)), FREE, WORK))
        self.assertEqual(pay_of(rule, 5041, ONE), ONE)
        self.assertEqual(pay_of(rule, 5040 * 5039, ONE), (12, 1))
        self.assertEqual(pay_of(rule, 5040, ONE), NOUGHT)

    def test_no_rule(self):
        for thing in odd_things() + [WEEK, OVERTIME, list(WORK), ("hours", BENT_NOWHERE),
                                     bush(41), chain(13)]:
            refused(self, NoRule, pay_of, thing, 0, ONE)
            # NoRule is told ahead of NoAmount.
            refused(self, NoRule, pay_of, thing, 0, (-1, 1))

    def test_no_amount(self):
        for rule in ONE_EACH + (("flat", ONE), bush(40), chain(12)):
            for hours in ((-1, 1), (-1, 1000), (-10 ** 30, 1)):
                refused(self, NoAmount, pay_of, rule, 0, hours)
            pay_of(rule, 0, NOUGHT)

    def test_flat_lines_pay_as_flat_rules(self):
        for y in (NOUGHT, ONE, (-5, 7)):
            for hours in (NOUGHT, (10 ** 18, 1)):
                self.assertEqual(pay_of(("hours", flat(y)), 3, hours), pay_of(("flat", y), 3, hours))

    def test_nothing_handed_in_is_changed(self):
        days = Days(7, (0, 1, 2), turned=(12,))
        rule = ("on", days, WORK, ("sum", FREE, WORK))
        again = ("on", Days(7, (0, 1, 2), turned=(12,)), WORK, ("sum", FREE, WORK))
        for day in range(14):
            pay_of(rule, day, ONE)
        self.assertEqual(rule, again)


class InterfaceTest(unittest.TestCase):
    def test_names_of_arguments(self):
        for name, told in (("is_rule", ["thing"]), ("pay_of", ["rule", "day", "hours"])):
            self.assertEqual(parameters(getattr(rules, name)), told)
            self.assertEqual(getattr(rules, name).__module__, "paymill.rules")


if __name__ == "__main__":
    unittest.main()
