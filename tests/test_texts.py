import random
import re
import unittest
from fractions import Fraction
from math import gcd

from common import (
    bush, chain, odd_things, parameters, random_days, random_line, random_part, random_rule,
    refused, tuples_of,
)
from paymill import texts
from paymill.days import MOST_PERIOD, Days, either, no_days
from paymill.errors import NoRule, NoText
from paymill.lines import flat, line_of
from paymill.parts import NOUGHT, ONE, part
from paymill.texts import (
    line_text, part_text, read_days, read_line, read_part, read_rule, rule_text,
)

WEEK = Days(7, (0, 1, 2))
OVERTIME = line_of([((0, 1), (0, 1)), ((8, 1), (96, 1))], (18, 1))
FREE = ("flat", NOUGHT)
WORK = ("hours", OVERTIME)
SHIFT = ("on", WEEK, WORK, FREE)
SHIFT_TEXT = "on 7:0,1,2 hours 0:0,8:96 18 flat 0"
MOST = 10 ** 399
SHAPES = {"flat": ["part"], "hours": ["knots", "slope"], "on": ["days", "rule", "rule"],
          "sum": ["rule", "rule"], "most": ["rule", "rule"], "least": ["rule", "rule"],
          "times": ["part", "rule"]}
STARTS = {"part": ["part"], "days": ["days"], "line": ["knots", "slope"], "rule": ["rule"]}
READERS = {"part": read_part, "days": read_days, "line": read_line, "rule": read_rule}
NUMBER = "(0|-?[1-9][0-9]{0,399})"


# The slow plain way: whole texts are looked at by 5.1 and 5.2, and of each
# beginning whether anything that can be put behind it makes such a text.

def slow_number(word):
    return int(word) if re.fullmatch(NUMBER, word, re.ASCII) else None


def slow_part(word):
    """The worth of a part that a word writes."""
    match = re.fullmatch(f"{NUMBER}(/([1-9][0-9]{{0,399}}))?", word, re.ASCII)
    if match is None:
        return None
    a, b = int(match[1]), int(match[3] or 1)
    if match[3] == "1" or gcd(a, b) != 1:
        return None
    return Fraction(a, b)


def slow_days(word):
    match = re.fullmatch("([0-9]+):([0-9,]*)(;([-0-9,]+))?", word, re.ASCII)
    if match is None:
        return False
    rows = [[slow_number(each) for each in row.split(",")] if row else []
            for row in (match[1], match[2], match[4] or "")]
    if any([None in row or row != sorted(set(row)) for row in rows]):
        return False
    (period,), marks, turned = rows
    if not 1 <= period <= MOST_PERIOD or len(turned) > 60 or any([at >= period for at in marks]):
        return False
    return not any(all((day in marks) == ((day + shorter) % period in marks)
                       for day in range(period)) for shorter in range(1, period))


def slow_knots(word):
    """The knots that a word writes; None where it writes none of a normal line."""
    knots = []
    for each in word.split(","):
        pair = [slow_part(one) for one in each.split(":")]
        if len(pair) != 2 or None in pair:
            return None
        knots.append(tuple(pair))
    xs = [x for x, _ in knots]
    if xs != sorted(set(xs)) or xs[0] != 0:
        return None
    slopes = slow_slopes(knots)
    if any([first == second for first, second in zip(slopes, slopes[1:])]):
        return None
    return knots


def slow_slopes(knots):
    return [(y2 - y1) / (x2 - x1) for (x1, y1), (x2, y2) in zip(knots, knots[1:])]


def is_whole_text(words, start):
    """Whether words are all of a text: each as it can stand, none lacking."""
    wanted = [(want, 1) for want in STARTS[start]][::-1]
    many = 0
    knots = None
    for word in words:
        if not wanted:
            return False
        want, deep = wanted.pop()
        if want == "rule":
            if word not in SHAPES:
                return False
            many += 1
            if many > 40 or deep > 12:
                return False
            wanted += [(each, deep + 1) for each in SHAPES[word]][::-1]
        elif want == "part" and slow_part(word) is None or want == "days" and not slow_days(word):
            return False
        elif want == "knots":
            knots = slow_knots(word)
            if knots is None:
                return False
        elif want == "slope":
            slope = slow_part(word)
            if slope is None or slow_slopes(knots)[-1:] == [slope]:
                return False
    return not wanted


def can_begin(words, start):
    wanted = STARTS[start][::-1]
    for word in words:
        if not wanted:
            return False
        if wanted.pop() == "rule":
            if word not in SHAPES:
                return False
            wanted += SHAPES[word][::-1]
    for slope in ("0", "1"):
        behind = {"part": "0", "days": "1:0", "knots": "0:0", "slope": slope, "rule": "flat 0"}
        rest = [word for want in wanted[::-1] for word in behind[want].split(" ")]
        if is_whole_text([*words, *rest], start):
            return True
    return False


def slow_at(text, start):
    """Where a text is refused, by the words of 5.3; None where it isn't."""
    words = text.split(" ")
    for at in range(len(words)):
        if not can_begin(words[:at + 1], start):
            return at
    return None if is_whole_text(words, start) else len(words)


class Watched(unittest.TestCase):
    def check(self, text, start="rule"):
        """A text is read, or refused, as slowly; what is read is written so."""
        at = slow_at(text, start)
        if at is not None:
            self.assertEqual(refused(self, NoText, READERS[start], text).at, at, text)
            return
        told = READERS[start](text)
        written = {"part": part_text, "days": str, "line": line_text, "rule": rule_text}[start](told)
        self.assertEqual(written, text)

    def refused_at(self, at, text, start="rule"):
        self.assertEqual(refused(self, NoText, READERS[start], text).at, at, text)
        self.assertEqual(slow_at(text, start), at, text)


class PartTextTest(Watched):
    def test_written_and_read(self):
        for one, text in (((0, 1), "0"), ((1, 1), "1"), ((-7, 1), "-7"), ((1, 2), "1/2"),
                          ((-10, 3), "-10/3"), ((10 ** 30, 7), f"{10 ** 30}/7")):
            self.assertEqual(part_text(one), text)
            self.assertEqual(read_part(text), one)
        self.assertEqual(part_text(one=(1, 3)), "1/3")
        self.assertEqual(read_part(text="1/3"), (1, 3))

    def test_random_ones(self):
        rng = random.Random(61)
        for _ in range(300):
            one = random_part(rng, -10 ** 9, 10 ** 9, 1000)
            self.assertEqual(read_part(part_text(one)), one)

    def test_no_parts(self):
        for text in (
            "", "-", "+1", "-0", "00", "01", "-01", "1/1", "0/1", "0/2", "2/4", "1/0", "1/01",
            "1/-2", "-1/-2", "1/+2", "/2", "1/", "1//2", "1/2/3", "1.5", "1,5", "a", "0x1", "1_000",
            "--1", "1-", "(0, 1)", "1e3", "1\t", "\n1", "1\n", "\u0661", "\u00b2", "1/\u0662", ":",
            "1/2/", "\uff11", "0:0", "flat",
        ):
            self.refused_at(0, text, "part")

    def test_words_too_many(self):
        for text, at in ((" ", 0), (" 1", 0), ("1 ", 1), ("1  ", 1), ("1 2", 1), ("x 2", 0),
                         ("1/2 3/4 5", 1), ("1 / 2", 1)):
            self.refused_at(at, text, "part")

    def test_four_hundred_figures_and_more(self):
        for one in ((MOST, 1), (-MOST, 1), (10 * MOST - 1, MOST), (1, 10 * MOST - 1),
                    (1 - 10 * MOST, 10 * MOST - 3)):
            one = part(*one)
            self.assertEqual(read_part(part_text(one)), one)
        for one in ((10 * MOST, 1), (-10 * MOST, 1), (1, 10 * MOST + 1), (10 * MOST, 7),
                    (10 ** 5000, 1), (-1, 10 ** 5000 + 1)):
            self.refused_at(0, part_text(part(*one)), "part")
        self.assertEqual(part_text((-10 ** 5000, 3)), "-1" + "0" * 5000 + "/3")
        self.refused_at(0, "0" * 400, "part")
        self.refused_at(0, "0" * 5000 + "1", "part")

    def test_of_some_signs(self):
        rng = random.Random(62)
        for _ in range(3000):
            self.check("".join(rng.choices("0012-/ ", k=rng.randint(0, 5))), "part")


class DaysTextTest(Watched):
    def test_written_and_read(self):
        for text in ("7:0,1,4;-3,12", "1:0", "1:", "1:;5", "2:1;0", "5040:5039", "3:0,1;-10,-9,10"):
            self.assertEqual(str(read_days(text)), text)
        self.assertEqual(read_days(text="7:0,1,4;-3,12"), Days(7, (0, 1, 4), turned=(-3, 12)))

    def test_random_ones(self):
        rng = random.Random(63)
        for _ in range(200):
            days = random_days(rng)
            self.assertEqual(read_days(str(days)), days)

    def test_no_days(self):
        for text in (
            "", ":", "7", "7:", "0:", "-7:0", "5041:0", "7:7", "7:-1", "7:1,0", "7:0,0", "7:0,", "7:,0",
            "7:0;", "7:0;,1", "7:0;2,1", "7:0;1,1", "7:0;1,", "7:0;1;2", "7:0:1", "07:0", "7:00",
            "7:0;-0", "7:0;01", "7:0;+1", "2:0,1", "14:0,7", "1:1", "7;0", "7:0,1/2", "a:0", "7:a",
            "7:0;a", "7:0;1/2", "5040:0,2520", "7:0\n", "7:\u0661", "\u0667:0", ";", "7:;", "2:",
            "7:0.1", "7:0;--1",
        ):
            self.refused_at(0, text, "days")

    def test_words_too_many(self):
        for text, at in ((" ", 0), (" 7:0", 0), ("7:0 ", 1), ("7:0 1", 1), ("7:0, 1", 0), ("7: 0", 0),
                         ("1: ;5", 1), ("7:0 7:0 7:0", 1)):
            self.refused_at(at, text, "days")

    def test_sixty_turned_and_more(self):
        for many in (59, 60, 61, 62, 100):
            text = "7:0;" + ",".join([str(3 * at) for at in range(many)])
            if many <= 60:
                self.assertEqual(len(read_days(text).turned), many)
            else:
                self.refused_at(0, text, "days")
                self.refused_at(1, f"on {text} flat 0 flat 0")

    def test_four_hundred_figures_and_more(self):
        for day in (MOST, 10 * MOST - 1, -MOST, 1 - 10 * MOST):
            self.assertEqual(read_days(f"7:0;{day}").turned, (day,))
        for day in (10 * MOST, -10 * MOST):
            self.refused_at(0, f"7:0;{day}", "days")
        self.refused_at(0, "1" * 401 + ":0", "days")
        self.refused_at(0, "7:" + "1" * 401, "days")
        self.refused_at(0, "7:0;" + "1" * 5000, "days")

    def test_of_some_signs(self):
        rng = random.Random(64)
        for _ in range(4000):
            text = "".join(rng.choices("0123,;:-", k=rng.randint(0, 5)))
            self.check(rng.choice(("", "1:", "2:", "3:1", "3:0;")) + text, "days")


class LineTextTest(Watched):
    def test_written_and_read(self):
        bent = line_of([(NOUGHT, (-3, 2)), ((1, 2), NOUGHT)], (-7, 3))
        for line, text in (
            (OVERTIME, "0:0,8:96 18"), (flat(ONE), "0:1 0"), (flat((-1, 2)), "0:-1/2 0"),
            (bent, "0:-3/2,1/2:0 -7/3"),
        ):
            self.assertEqual(line_text(line), text)
            self.assertEqual(read_line(text), line)
        self.assertEqual(read_line(text=line_text(line=OVERTIME)), OVERTIME)

    def test_random_ones(self):
        rng = random.Random(65)
        for _ in range(200):
            line = random_line(rng, 8)
            self.assertEqual(read_line(line_text(line)), line)

    def test_any_number_of_knots(self):
        line = line_of([((at, 1), (at * at, 1)) for at in range(700)], ONE)
        self.assertEqual(read_line(line_text(line)), line)
        self.assertEqual(read_rule(rule_text(("hours", line))), ("hours", line))

    def test_slopes_that_go_straight_on(self):
        for text, slope in (("0:0,8:96", "12"), ("0:1,1:1", "0"), ("0:0,3:1", "1/3"),
                            ("0:0,1:1,2:0", "-1"), ("0:5,10:0", "-1/2")):
            self.refused_at(1, f"{text} {slope}", "line")
            self.refused_at(2, f"hours {text} {slope}")
            self.refused_at(2, f"hours {text} {slope} flat")
            for other in ("18", "1", "-2", "1/2"):
                if other != slope:
                    self.assertEqual(line_text(read_line(f"{text} {other}")), f"{text} {other}")
            self.refused_at(1, text, "line")
        for slope in ("0", "1", "-5"):
            self.assertEqual(line_text(read_line(f"0:5 {slope}")), f"0:5 {slope}")

    def test_no_knots(self):
        for knots in ("", ",", "0", "0:", ":0", "0:0,", ",0:0", "0:0,,1:1", "1:0", "1/2:0", "-1:0",
                      "0:0,0:1", "0:0,2:1,1:5", "0:0,-1:5", "0:0,1:1,2:2", "0:1,1:1,2:1,3:5",
                      "0:0:0", "0:0,1:2/4", "0:0,2/2:1", "0:0,1:01", "0:+0", "0:-0", "0:0;1:1",
                      "0:1/0", "0:a", "00:0", "0:0,1:0,2:3,3:6"):
            self.refused_at(0, f"{knots} 1", "line")
            self.refused_at(1, f"hours {knots} 1")
            self.refused_at(0, knots, "line")

    def test_words_lacking_or_too_many(self):
        for text, at in (("", 0), ("0:0", 1), ("0:0 ", 1), ("0:0  1", 1), (" 0:0 1", 0), ("0:0 1 ", 2),
                         ("0:0 1 2", 2), ("0:0 x", 1), ("0:0 1/1", 1), ("0:0, 8:96 18", 0),
                         ("0:0 8:96 18", 1)):
            self.refused_at(at, text, "line")

    def test_figures(self):
        for number in (10 * MOST - 1, MOST):
            for text in (f"0:{number} 1", f"0:0 -{number}", f"0:0,{number}:1/{number} 5"):
                self.assertEqual(line_text(read_line(text)), text)
        great = 10 * MOST
        for at, text in ((0, f"0:{great} 1"), (1, f"0:0 -{great}"), (0, f"0:0,{great}:1 5"),
                         (0, f"0:0,1:7/{great} 5"), (1, f"0:0 1/{great}")):
            self.refused_at(at, text, "line")
        told = line_text(line_of([(NOUGHT, (10 ** 4400, 1))], (1, 10 ** 4400)))
        self.assertEqual(told, "0:1" + "0" * 4400 + " 1/1" + "0" * 4400)

    def test_of_some_signs(self):
        rng = random.Random(66)
        for _ in range(4000):
            text = "".join(rng.choices("0012,::-/ ", k=rng.randint(0, 6)))
            self.check(rng.choice(("", "0:0,", "0:1 ", "0:1,1:2", "0:0,2:0 ")) + text, "line")


class RuleTextTest(Watched):
    def test_written_and_read(self):
        for rule, text in (
            (SHIFT, SHIFT_TEXT), (FREE, "flat 0"), (("flat", (-7, 3)), "flat -7/3"),
            (WORK, "hours 0:0,8:96 18"), (("sum", WORK, FREE), "sum hours 0:0,8:96 18 flat 0"),
            (("most", FREE, ("least", FREE, ("flat", ONE))), "most flat 0 least flat 0 flat 1"),
            (("times", (-1, 2), SHIFT), f"times -1/2 {SHIFT_TEXT}"),
            (("on", Days(7, (0,), turned=(-3, 12)), ("times", ONE, FREE), WORK),
             "on 7:0;-3,12 times 1 flat 0 hours 0:0,8:96 18"),
            (("on", no_days(), FREE, FREE), "on 1: flat 0 flat 0"),
        ):
            self.assertEqual(rule_text(rule), text)
            self.assertEqual(read_rule(text), rule)
            self.assertIsNone(slow_at(text, "rule"))
        self.assertEqual(read_rule(text=rule_text(rule=SHIFT)), SHIFT)

    def test_random_ones(self):
        rng = random.Random(67)
        for _ in range(300):
            rule = random_rule(rng, rng.choice((3, 9, 40)))
            text = rule_text(rule)
            self.assertEqual(read_rule(text), rule)
            self.assertEqual(rule_text(read_rule(text)), text)
            self.assertNotIn("  ", text)

    def test_just_one_text(self):
        rng = random.Random(68)
        some = [random_rule(rng, 4, periods=(1, 2)) for _ in range(150)]
        some.extend([("on", Days(2, (0,)), FREE, FREE), ("on", Days(4, (0, 2)), FREE, FREE)])
        for one in some:
            for other in some:
                self.assertIs(rule_text(one) == rule_text(other), one == other)

    def test_longer_than_four_thousand_signs(self):
        long = ("hours", line_of([(part(at, 7), part(at * at, 13)) for at in range(900)], ONE))
        for rule in (long, ("sum", long, ("times", ONE, long))):
            self.assertGreater(len(rule_text(rule)), 4000)
            self.assertEqual(read_rule(rule_text(rule)), rule)

    def test_no_rule(self):
        for thing in odd_things() + [WEEK, OVERTIME, SHIFT_TEXT, list(SHIFT), bush(41), chain(13),
                                     ("hours", ((NOUGHT, NOUGHT),)), ("flat", (2, 2))]:
            refused(self, NoRule, rule_text, thing)

    def test_told_more_than_is_read(self):
        great = 10 * MOST
        self.assertEqual(rule_text(("flat", (great, 1))), f"flat {great}")
        self.refused_at(1, f"flat {great}")
        self.refused_at(1, f"times 1/{great} flat 0")
        told = no_days()
        for begin in (0, 60):
            told = either(told, Days(1, (), turned=list(range(begin, begin + 60))))
        text = rule_text(("on", told, FREE, FREE))
        self.assertEqual(text, "on 1:;" + ",".join([str(day) for day in range(120)]) + " flat 0 flat 0")
        self.refused_at(1, text)
        self.refused_at(1, f"on 7:0;{great} flat 0 flat 0")

    def test_what_lacks(self):
        words = SHIFT_TEXT.split(" ")
        for many in range(1, len(words)):
            self.refused_at(many, " ".join(words[:many]))
        self.refused_at(0, "")
        for text, at in (("flat", 1), ("sum flat 0", 3), ("times", 1), ("times 2", 2), ("on", 1),
                         ("sum sum sum", 3), ("hours 0:0", 2), ("on 1:0 flat 0", 4)):
            self.refused_at(at, text)

    def test_empty_words(self):
        words = SHIFT_TEXT.split(" ")
        for at in range(len(words) + 1):
            self.refused_at(at, " ".join(words[:at] + [""] + words[at:]))
            self.refused_at(at, " ".join(words[:at] + ["", ""] + words[at:]))
        for text, at in ((" ", 0), ("  ", 0), ("flat ", 1), ("flat  0", 1), (" flat 0", 0),
                         ("flat 0 ", 2), ("flat 0  ", 2)):
            self.refused_at(at, text)

    def test_words_exchanged_left_out_put_in_and_twice(self):
        rule = ("sum", ("times", (2, 3), SHIFT), ("most", WORK, ("least", FREE, ("flat", (5, 2)))))
        words = rule_text(rule).split(" ")
        others = sorted(SHAPES) + ["0", "1", "-1/2", "12", "7:0,1,2", "1:0", "0:0", "0:0,8:96", "", "x",
                                   "Flat", "2/4", "0:0,1:1,2:2", "14:0,7", "flat,", "\n", "5041:0"]
        for at in range(len(words)):
            self.check(" ".join(words[:at] + words[at + 1:]))
            self.check(" ".join(words[:at] + words[at:at + 1] * 2 + words[at + 1:]))
            for other in others:
                self.check(" ".join(words[:at] + [other] + words[at + 1:]))
                self.check(" ".join(words[:at] + [other] + words[at:]))
        for other in others:
            self.check(" ".join(words + [other]))

    def test_random_words(self):
        rng = random.Random(70)
        vocabulary = sorted(SHAPES) + ["0", "0", "1", "1:0", "0:0", "0:0,1:1", "2/3"]
        for _ in range(3000):
            words = rng.choices(vocabulary, k=rng.randint(1, 7))
            self.check(" ".join(words))
            self.check(" ".join(["sum", "flat", "0", *words]))

    def test_wrong_signs(self):
        for text, at in (("flat\t0", 0), ("flat 0\n", 1), ("flat\u00a00", 0), ("FLAT 0", 0),
                         ("flat \u0660", 1), ("on 7:0\u2028 flat 0 flat 0", 1), ("\x00", 0),
                         ("flat 0\r flat", 1), ("hours 0:0 1\u00b9", 2), ("fl%at 0", 0)):
            self.refused_at(at, text)

    def test_far_more_words(self):
        self.refused_at(2, "flat 0" + " flat 0" * 500)
        self.refused_at(0, " " * 4000)
        self.refused_at(11, "sum " * 900 + "flat 0")
        self.refused_at(0, "x" * 4000)


class BoundsTest(Watched):
    def test_forty_tuples_and_forty_one(self):
        for many in (38, 39, 40, 41, 42, 60):
            text = slow_text(bush(many))
            if many <= 40:
                self.assertEqual(read_rule(text), bush(many))
            else:
                self.check(text)
                self.assertLess(slow_at(text, "rule"), len(text.split(" ")))

    def test_great_trees(self):
        rng = random.Random(71)
        words = sorted(SHAPES)
        for _ in range(150):
            tree = random_tree(rng, rng.randint(30, 50), rng.randint(7, 14))
            text = slow_text(tree)
            self.check(text)
            row = text.split(" ")
            at = rng.randrange(len(row))
            self.check(" ".join(row[:at] + [rng.choice(words)] + row[at:]))
            self.check(" ".join(row[:at] + [rng.choice(words)] + row[at + 1:]))
            self.check(" ".join(row[:at]))

    def test_what_is_wanted_counts(self):
        # Nine sums want ten rules: nineteen. Each row here in the place of
        # one wanted makes four more: five of them come to thirty-nine.
        row = ["sum", "sum", "flat", "0", "flat", "0", "flat", "0"]
        words = ["sum"] * 9 + row * 9
        for many in range(1, len(words) + 1):
            self.check(" ".join(words[:many]))
        self.refused_at(9 + 5 * len(row), " ".join(words))
        self.refused_at(9 + 5 * len(row), " ".join(words[:9 + 5 * len(row)]))
        fit = words[:9 + 5 * len(row)] + ["flat", "0"] * 4
        self.refused_at(len(fit), " ".join(fit))
        self.assertEqual(tuples_of(read_rule(" ".join(fit + ["flat", "0"])))[0], 39)

    def test_a_word_that_wants_one_rule_more(self):
        # 39 tuples begun or wanted: `times` makes them 40, `sum` would 41.
        text = slow_text(bush(39))
        words = text.split(" ")
        last = len(words) - 2
        self.assertEqual(words[last:], ["flat", "1"])
        self.refused_at(last, " ".join(words[:last] + ["sum", "flat", "1", "flat", "1"]))
        self.refused_at(last, " ".join(words[:last] + ["on", "1:0", "flat", "1", "flat", "1"]))
        fit = " ".join(words[:last] + ["times", "2", "flat", "1"])
        self.assertEqual(tuples_of(read_rule(fit))[0], 40)
        self.refused_at(last + 2, " ".join(words[:last] + ["times", "2", "times", "2", "flat", "1"]))
        self.refused_at(last, " ".join(words[:last] + ["most"]))
        self.refused_at(last + 1, " ".join(words[:last] + ["times"]))

    def test_twelve_within_one_another_and_thirteen(self):
        for word in ("sum", "most", "least", "times"):
            for deep in (11, 12, 13, 14):
                text = slow_text(chain(deep, word))
                if deep <= 12:
                    self.assertEqual(read_rule(text), chain(deep, word))
                    continue
                words = text.split(" ")
                at = [at for at, each in enumerate(words) if each == word][11]
                self.refused_at(at, text)
                self.refused_at(at, " ".join(words[:at + 1]))
        self.refused_at(11, " ".join(["sum"] * 12))
        self.refused_at(11, " ".join(["most"] * 11 + ["on"]))
        self.refused_at(12, " ".join(["most"] * 11 + ["flat"]))
        self.refused_at(12, " ".join(["most"] * 11 + ["hours"]))
        self.refused_at(11, " ".join(["least"] * 11))


def random_tree(rng, tuples, deep):
    """A tree of so many tuples, or less, that is a rule but for its bounds."""
    if tuples < 3 or deep < 2:
        return ("flat", (rng.randint(0, 9), 1))
    if rng.randint(0, 3) == 0:
        return ("times", ONE, random_tree(rng, tuples - 1, deep - 1))
    few = rng.choice((1, tuples - 2, rng.randint(1, tuples - 2)))
    pair = (random_tree(rng, few, deep - 1), random_tree(rng, tuples - 1 - few, deep - 1))
    return (rng.choice(("sum", "most", "least")), *pair)


def slow_text(rule):
    """The text of a tree of sums, times and leaves, however great."""
    word, *inner = rule
    row = [slow_text(each) if type(each[0]) is str else part_text(each) for each in inner]
    return " ".join([word, *row])


class InterfaceTest(unittest.TestCase):
    def test_names_of_arguments(self):
        for name, told in (
            ("part_text", ["one"]), ("line_text", ["line"]), ("rule_text", ["rule"]),
            ("read_part", ["text"]), ("read_days", ["text"]), ("read_line", ["text"]),
            ("read_rule", ["text"]),
        ):
            self.assertEqual(parameters(getattr(texts, name)), told)
            self.assertEqual(getattr(texts, name).__module__, "paymill.texts")

    def test_what_is_read_is_the_askers_own(self):
        first, second = read_rule(SHIFT_TEXT), read_rule(SHIFT_TEXT)
        self.assertIsNot(first[1], second[1])
        first[1].marks = ()
        self.assertEqual(second, SHIFT)
        self.assertEqual(read_rule(SHIFT_TEXT), SHIFT)
        self.assertIsNot(read_days("1:0"), read_days("1:0"))


if __name__ == "__main__":
    unittest.main()
