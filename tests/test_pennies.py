import random
import time
import unittest
from fractions import Fraction
from itertools import product
from math import floor

from common import Contrary, as_part, nested, odd_things, parameters, random_part, refused, worth
from paymill import pennies
from paymill.errors import NoFold, NoNumber
from paymill.parts import NOUGHT, ONE, part
from paymill.pennies import is_folding, mix_right, mixed, rounded, rounded_right

HALF = part(1, 2)
THREE = (HALF, HALF, part(-1, 3))


def slow_is_folding(many, sets):
    """Whether a tuple of sets is a folding, by the words of 11.1."""
    for one in sets:
        if not (one and list(one) == sorted(set(one)) and set(one) <= set(range(many))):
            return False
    return len(sets) <= 40 and all([
        not set(one) & set(other) or set(one) <= set(other) or set(other) <= set(one)
        for one in sets for other in sets
    ])


def slow_is_rounded(amounts, sets, row):
    """Whether a row of whole numbers is the amounts rounded, by the words of 11.1."""
    groups = [*[(at,) for at in range(len(amounts))], tuple(range(len(amounts))), *sets]
    for places in groups:
        total = sum([worth(amounts[at]) for at in places])
        number = sum([row[at] for at in places])
        if number not in ((floor(total),) if total == floor(total) else (floor(total), floor(total) + 1)):
            return False
    return True


def all_rounded(amounts, one=(), other=()):
    """All rounded, going through all."""
    choices = [(floor(worth(amount)), floor(worth(amount)) + 1) for amount in amounts]
    return [row for row in product(*choices) if slow_is_rounded(amounts, one + other, row)]


def slow_is_mix(amounts, sets, mix):
    """Whether a row of pairs is a mix, by the words of 11.3."""
    sums = [sum([row[at] * worth(chance) for row, chance in mix]) for at in range(len(amounts))]
    return (len(mix) <= len(amounts) + 1 and sum([worth(chance) for _, chance in mix]) == 1
            and all([worth(chance) > 0 and slow_is_rounded(amounts, sets, row) for row, chance in mix])
            and sums == [worth(amount) for amount in amounts])


def random_folding(rng, many, most=40):
    """A folding: places in any order, parted again and again."""
    places = list(range(many))
    rng.shuffle(places)
    found = []
    waiting = [places]
    while waiting:
        some = waiting.pop()
        if rng.randint(0, 3):
            found.append(tuple(sorted(some)))
        if rng.randint(0, 9) == 0:
            found.append(tuple(sorted(some)))
        while len(some) > 1:
            few = rng.randint(1, len(some) - 1)
            if rng.randint(0, 3):
                waiting.append(some[:few])
            some = some[few:]
    rng.shuffle(found)
    return tuple(found[:most])


def random_amounts(rng, many, most_b=12):
    return [rng.choice((random_part(rng, -40, 40, most_b), random_part(rng, -40, 40, most_b),
                        part(rng.randint(-5, 5)))) for _ in range(many)]


class FoldingTest(unittest.TestCase):
    def test_foldings(self):
        amounts = [HALF] * 5
        for thing in ((), ((0,),), ((0, 1), (2, 3)), ((0, 1), (0, 1)), ((0, 1, 2, 3, 4),), ((1, 3), (0, 1, 3), (4,)),
                      ((0, 1),) * 40, ((0,), (1,), (2,), (3,), (4,), (0, 4))):
            self.assertIs(is_folding(amounts, thing), True)
            self.assertIs(is_folding(thing=thing, amounts=tuple(amounts)), True)
        self.assertIs(is_folding([ONE], ((0,),)), True)
        self.assertIs(is_folding([ONE] * 40, (tuple(range(40)), (39,))), True)
        self.assertIs(is_folding([ONE] * 40, tuple([(at,) for at in range(40)])), True)

    def test_other_things(self):
        amounts = [HALF] * 5
        for thing in odd_things() + [
            ((0, 1), (1, 2)), ((0, 1, 2), (3, 4), (2, 3)), ((),), ((0, 0),), ((1, 0),), ((5,),), ((-1,),), ((0, 5),),
            ((0, 1),) * 41, ([0, 1],), [(0, 1)], (0, 1), ((True,),), ((0, True),), ((False,),), (("0",),), ((0,), None),
            ((0,), Contrary()), ((Contrary(),),), ((0, Contrary()),), ((NOUGHT,),), nested((0,), 15, tuple),
            ((10 ** 30,),), {(0,): 1}, "01", ((0, 1), "0"), ((0, 1, 2, 3, 4, 4),), (((0,),),),
        ]:
            self.assertIs(is_folding(amounts, thing), repr(thing) in ("()", "((0, 1),)"), repr(thing))

    def test_all_of_few(self):
        some = [(), (0,), (1,), (0, 1), (1, 2), (0, 2), (0, 1, 2), (2, 1), (1, 1), (0, 3)]
        for one in some:
            for other in some:
                for third in some:
                    thing = (one, other, third)
                    self.assertIs(is_folding(THREE, thing), slow_is_folding(3, thing))

    def test_no_fold_ahead_of_all(self):
        for thing in odd_things() + [((0, 1), (1, 2)), ((3,),), ((0,),) * 41, [(0,)], ([0],)]:
            if repr(thing) in ("()", "((0, 1),)"):
                continue
            for one, other in ((thing, ()), ((), thing), (thing, thing), (((0, 1),), thing)):
                for call in (rounded, mixed):
                    refused(self, NoFold, call, THREE, one, other)
                refused(self, NoFold, rounded, THREE, one, other, up=9)
                refused(self, NoFold, rounded, THREE, other=other, one=one, down=None, up=Contrary())
                for call in (rounded_right, mix_right):
                    refused(self, NoFold, call, THREE, one, other, (1, 0, 0))
                    refused(self, NoFold, call, THREE, one, other, Contrary())


class RoundedTest(unittest.TestCase):
    def test_by_hand(self):
        self.assertEqual(rounded([part(3), part(-4)]), (3, -4))
        self.assertEqual(rounded([part(7)], ((0,),), ((0,), (0,))), (7,))
        self.assertIn(rounded([HALF]), ((0,), (1,)))
        self.assertIn(rounded([part(-1, 2)]), ((-1,), (0,)))
        self.assertIn(rounded([HALF, HALF]), ((0, 1), (1, 0)))
        self.assertEqual(rounded([HALF, HALF], up=0), (1, 0))
        self.assertEqual(rounded([HALF, HALF], down=0), (0, 1))
        self.assertEqual(rounded([HALF] * 4, ((0, 1), (2, 3)), ((1, 2), (0, 3)), up=0), (1, 0, 1, 0))
        self.assertEqual(rounded(down=0, amounts=(HALF,) * 4, other=((1, 2), (0, 3)), one=((0, 1), (2, 3))),
                         (0, 1, 0, 1))
        self.assertEqual(rounded([part(1, 3)] * 3, ((0, 1),), up=2), (0, 0, 1))

    def test_by_all(self):
        rng = random.Random(301)
        for _ in range(250):
            many = rng.randint(1, 7)
            amounts = random_amounts(rng, many)
            one, other = random_folding(rng, many), random_folding(rng, many)
            rows = all_rounded(amounts, one, other)
            told = rounded(amounts, one, other)
            self.assertIs(type(told), tuple)
            self.assertTrue(all([type(number) is int for number in told]))
            self.assertIn(told, rows)
            self.assertEqual(rounded(amounts, one, other), told)
            for at, amount in enumerate(amounts):
                if amount[1] == 1:
                    continue
                low = floor(worth(amount))
                for row, number in ((rounded(amounts, one, other, up=at), low + 1),
                                    (rounded(amounts, one, other, down=at), low)):
                    self.assertIn(row, rows)
                    self.assertEqual(row[at], number)

    def test_forty(self):
        rng = random.Random(302)
        start = time.perf_counter()
        for most_b in (2, 3, 1000, 1000, 1000):
            amounts = [part(rng.randint(-10 ** 6, 10 ** 6), rng.randint(2, most_b)) for _ in range(40)]
            amounts[7] = part(5)
            one, other = random_folding(rng, 40), random_folding(rng, 40)
            self.assertTrue(slow_is_folding(40, one) and slow_is_folding(40, other))
            for more in ({}, {"up": 3}, {"down": 3}, {"up": 39}, {"down": 0}):
                if any([amounts[at][1] == 1 for at in more.values()]):
                    continue
                row = rounded(amounts, one, other, **more)
                self.assertTrue(slow_is_rounded(amounts, one + other, row))
                self.assertIs(rounded_right(amounts, one, other, row), True)
                for word, at in more.items():
                    self.assertEqual(row[at], floor(worth(amounts[at])) + (word == "up"))
        halves = [HALF] * 40
        rows = tuple([tuple(range(at, at + 5)) for at in range(0, 40, 5)])
        columns = tuple([tuple(range(at, 40, 5)) for at in range(5)])
        for at in range(40):
            self.assertTrue(slow_is_rounded(halves, rows + columns, rounded(halves, rows, columns, up=at)))
        self.assertLess(time.perf_counter() - start, 30)

    def test_great_amounts(self):
        amounts = [part(10 ** 40 + 1, 3), part(-10 ** 40, 7), part(1, 10 ** 40)]
        for up in range(3):
            self.assertTrue(slow_is_rounded(amounts, ((0, 1),), rounded(amounts, ((0, 1),), up=up)))

    def test_no_number(self):
        amounts = [HALF, part(3), HALF]
        for thing in odd_things() + [1, 3, -1, -3, 10 ** 30, "0", HALF, (0,), [0]]:
            if thing is None or (type(thing) is int and thing in (0, 2)):
                continue
            self.assertTrue(refused(self, NoNumber, rounded, amounts, up=thing).number is thing)
            self.assertTrue(refused(self, NoNumber, rounded, amounts, down=thing).number is thing)
            self.assertTrue(refused(self, NoNumber, rounded, amounts, up=thing, down=0).number is thing)
            self.assertTrue(refused(self, NoNumber, rounded, amounts, up=0, down=thing).number is thing)
            self.assertTrue(refused(self, NoNumber, rounded, amounts, up=thing, down=thing).number is thing)
        for up, down in ((0, 2), (2, 0), (0, 0), (2, 2)):
            self.assertEqual(refused(self, NoNumber, rounded, amounts, up=up, down=down).number, down)
        self.assertEqual(refused(self, NoNumber, rounded, [part(2)], up=0).number, 0)

    def test_nothing_is_changed(self):
        amounts = list(THREE)
        rounded(amounts, ((0, 1),), up=0)
        mixed(amounts, ((0, 1),))
        self.assertEqual(amounts, list(THREE))


class RoundedRightTest(unittest.TestCase):
    def test_by_all(self):
        rng = random.Random(303)
        for _ in range(120):
            many = rng.randint(1, 5)
            amounts = random_amounts(rng, many)
            one, other = random_folding(rng, many), random_folding(rng, many)
            rows = all_rounded(amounts, one, other)
            near = [range(floor(worth(amount)) - 1, floor(worth(amount)) + 3) for amount in amounts]
            for row in rng.sample(list(product(*near)), min(40, 4 ** many)) + rows:
                self.assertIs(rounded_right(amounts, one, other, row), row in rows)

    def test_other_things(self):
        self.assertIs(rounded_right(THREE, (), (), (1, 0, 0)), True)
        self.assertIs(rounded_right(thing=(1, 0, 0), other=(), one=(), amounts=list(THREE)), True)
        for thing in odd_things() + [[1, 0, 0], (1, 0), (1, 0, 0, 0), (True, 0, 0), (1, False, 0), (1, 0, None),
                                     (1, 0, Contrary()), (1, 0, NOUGHT), ("1", "0", "0"), (1, 1, 1), (0, 0, -1),
                                     (1, 0, 1), (2, -1, 0), (10 ** 40, 0, 0), ((1, 0, 0),), {0: 1, 1: 0, 2: 0}]:
            self.assertIs(rounded_right(THREE, (), (), thing), False, repr(thing))
        self.assertIs(rounded_right([ONE], (), (), (True,)), False)
        # The sum of all belongs to each folding.
        self.assertIs(rounded_right([HALF, HALF], (), (), (1, 1)), False)
        self.assertIs(rounded_right([HALF, HALF], (), (), (1, 0)), True)
        self.assertIs(rounded_right([HALF] * 4, ((0, 1),), ((1, 2),), (1, 0, 1, 0)), True)
        self.assertIs(rounded_right([HALF] * 4, ((0, 1),), ((1, 2),), (1, 0, 0, 1)), False)
        self.assertIs(rounded_right([HALF] * 4, ((0, 1),), ((1, 2),), (1, 1, 0, 0)), False)


class MixTest(unittest.TestCase):
    def test_by_hand(self):
        self.assertEqual(mixed([part(3), part(-4)]), (((3, -4), ONE),))
        self.assertEqual(sorted(mixed([part(1, 3)])), [((0,), part(2, 3)), ((1,), part(1, 3))])
        self.assertEqual(sorted(mixed([HALF, HALF])), [((0, 1), HALF), ((1, 0), HALF)])
        self.assertEqual(sorted(mixed(other=((1, 2),), amounts=[HALF] * 4, one=((0, 1), (2, 3)))),
                         [((0, 1, 0, 1), HALF), ((1, 0, 1, 0), HALF)])

    def test_by_words_and_judge(self):
        rng = random.Random(304)
        for at in range(150):
            many = rng.randint(1, 12)
            amounts = random_amounts(rng, many, rng.choice((3, 12, 1000)))
            one, other = random_folding(rng, many), random_folding(rng, many)
            mix = mixed(amounts, one, other)
            self.assertIs(type(mix), tuple)
            for pair in mix:
                self.assertEqual([type(thing) for thing in (pair, *pair)], [tuple, tuple, tuple])
            self.assertTrue(slow_is_mix(amounts, one + other, mix))
            self.assertIs(mix_right(amounts, one, other, mix), True)

    def test_twelve_without_sets(self):
        amounts = [part(at + 1, 997 - at) for at in range(12)]
        for folding in ((), tuple([(at,) for at in range(12)])):
            mix = mixed(amounts, folding)
            self.assertTrue(slow_is_mix(amounts, folding, mix))
            self.assertLessEqual(len(mix), 13)

    def test_judge_by_hand(self):
        row = (((0, 1), HALF), ((1, 0), HALF))
        amounts = [HALF, HALF]
        self.assertIs(mix_right(thing=row, other=(), one=(), amounts=amounts), True)
        quarters = (((0, 1), HALF), ((1, 0), part(1, 4)), ((1, 0), part(1, 4)))
        self.assertIs(mix_right(amounts, (), (), quarters), True)
        self.assertIs(mix_right(amounts, (), (), quarters[:2] + (quarters[2:] + quarters[2:])), False)
        self.assertIs(mix_right([NOUGHT], (), (), (((0,), HALF), ((0,), HALF))), True)
        self.assertIs(mix_right([NOUGHT], (), (), (((0,), part(1, 3)),) * 3), False)
        for thing in odd_things() + [
            row[:1], row + row, (), (((0, 1), ONE),), (((0, 1), HALF), ((0, 1), HALF)), list(row),
            (list(row[0]), row[1]), (((0, 1), part(1, 4)), ((1, 0), part(3, 4))), (((0, 1), HALF), ((1, 0), (2, 4))),
            (((0, 1), HALF), ((1, 0), part(1, 4))), (((0, 1), part(3, 2)), ((1, 0), part(-1, 2))),
            (((0, 1), HALF), ((1, 0), HALF), ((1, 0), NOUGHT)), ((([0, 1]), HALF), ((1, 0), HALF)),
            (((0, 0), HALF), ((1, 1), HALF)), (((0, 1), HALF), ((True, 0), HALF)), (((0, 1), HALF), Contrary()),
            (((0, 1), HALF), ((1, 0), Contrary())), (((0, 1), HALF), (Contrary(), HALF)), (row, row),
            (((0, 1), HALF, 1), ((1, 0), HALF, 1)), (((0, 1), 1), ((1, 0), 1)), dict(row),
            (((-1, 1), HALF), ((2, 0), HALF)),
        ]:
            self.assertIs(mix_right(amounts, (), (), thing), False, repr(thing))

    def test_wrong_ones(self):
        rng = random.Random(305)
        seen = {True: 0, False: 0}
        for _ in range(200):
            many = rng.randint(1, 4)
            amounts = random_amounts(rng, many)
            one, other = random_folding(rng, many), random_folding(rng, many)
            mix = [list(pair) for pair in mixed(amounts, one, other)]
            for _ in range(4):
                pair = rng.choice(mix)
                near = [rng.choice((number, number, number + 1, number - 1)) for number in pair[0]]
                wrong = tuple([(tuple(near), pair[1]) if each is pair else tuple(each) for each in mix])
                right = slow_is_mix(amounts, one + other, wrong)
                seen[right] += 1
                self.assertIs(mix_right(amounts, one, other, wrong), right)
            wrong = tuple([(row, as_part(worth(chance) * rng.choice((1, 1, Fraction(1, 2))))) for row, chance in mix])
            self.assertIs(mix_right(amounts, one, other, wrong), slow_is_mix(amounts, one + other, wrong))
        self.assertGreater(min(seen.values()), 50)


class InterfaceTest(unittest.TestCase):
    def test_names_of_arguments(self):
        for name, told in (
            ("is_folding", ["amounts", "thing"]), ("mixed", ["amounts", "one=()", "other=()"]),
            ("rounded", ["amounts", "one=()", "other=()", "*up=None", "*down=None"]),
            ("rounded_right", ["amounts", "one", "other", "thing"]),
            ("mix_right", ["amounts", "one", "other", "thing"]),
        ):
            self.assertEqual(parameters(getattr(pennies, name)), told)
            self.assertEqual(getattr(pennies, name).__module__, "paymill.pennies")


if __name__ == "__main__":
    unittest.main()
