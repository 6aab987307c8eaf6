import random
import unittest
from fractions import Fraction

from common import Contrary, Sly, as_part, nested, odd_things, parameters, refused, worth
from paymill import pots
from paymill.errors import NoPot
from paymill.lines import is_line, y_at
from paymill.parts import NOUGHT, ONE, is_amount, part
from paymill.pots import (
    bars_of, bars_sum, dealing_right, dealt, is_pot, names_of, reasons_of, reasons_right, share_lines,
)

HALF_F = Fraction(1, 2)
LETTERS = "abcdefghijklmnopqrstuvwxyz"


def order(name, want=10, rank=0, weight=1):
    return ("order", name, part(want), rank, part(weight))


def pot(cap, *members):
    return ("pot", part(cap), members)


TREE = pot(30, order("a", 10, 1), pot(12, order("b", 8, 1, 2), order("c", 8, 2)),
           pot(9, order("d", 20, 1), pot(4, order("e", 5, 1, 3))), order("f", 9, 5))


def names(many):
    return [LETTERS[at // 676] + LETTERS[at // 26 % 26] + LETTERS[at % 26] for at in range(many)]


def wide(orders, others):
    """A pot of so many orders, and so many pots, itself one."""
    return pot(5, *[order(name, 3) for name in names(orders)], *[pot(1)] * (others - 1))


def deep(many, inner=()):
    found = pot(3, *inner)
    for _ in range(many - 1):
        found = pot(3, found)
    return found


def paths_of(one, path=()):
    """Pairs (path, pot) of all pots, by the words of 9.1."""
    found = [(path, one)]
    for place, member in enumerate(one[2]):
        if member[0] == "pot":
            found.extend(paths_of(member, path + (place,)))
    return found


def orders_in(one):
    found = []
    for member in one[2]:
        found.extend(orders_in(member) if member[0] == "pot" else [member])
    return found


def held_sum(one, dealing):
    return sum([worth(dealing[each[1]]) for each in orders_in(one)], Fraction(0))


def slow_is_dealing(whole, thing):
    """Whether a dict from just the names to amounts is a dealing, by the words of 9.2."""
    within = all([worth(thing[name]) <= worth(want) for _, name, want, _, _ in orders_in(whole)])
    return within and all([held_sum(one, thing) <= worth(one[1]) for _, one in paths_of(whole)])


def slow_reasons(whole, dealing, name):
    """All reasons of an order's having no more, by the words of 9.3."""
    by_name = {each[1]: each for each in orders_in(whole)}
    own = by_name[name]
    found = [None] if dealing[name] == own[2] else []
    for path, one in paths_of(whole):
        held = orders_in(one)
        if own in held and held_sum(one, dealing) == worth(one[1]) and all([
            each[3] < own[3] or (each[3] == own[3] and worth(dealing[each[1]]) / worth(each[4])
                                 <= worth(dealing[name]) / worth(own[4]))
            for each in held if worth(dealing[each[1]]) > 0
        ]):
            found.append(path)
    return found


def slow_bars_sum(whole, rank, paths, some):
    """What bars come to, or None where they are none, by the words of 9.4."""
    by_path = dict(paths_of(whole))
    for each in orders_in(whole):
        if each[3] <= rank and each[1] not in some and not any([each in orders_in(by_path[path])
                                                                for path in paths]):
            return None
    wants = {each[1]: worth(each[2]) for each in orders_in(whole)}
    return sum([worth(by_path[path][1]) for path in paths] + [wants[name] for name in some], Fraction(0))


def bit_by_bit(whole, bits):
    """Nearly the even dealing, all levels of a rank raised bit by bit."""
    bit = Fraction(1, bits)
    dealing = {each[1]: Fraction(0) for each in orders_in(whole)}
    for rank in range(100):
        rising = [each for each in orders_in(whole) if each[3] == rank]
        while rising:
            for each in list(rising):
                _, name, want, _, weight = each
                dealing[name] += bit * worth(weight)
                full = dealing[name] > worth(want)
                for _, one in paths_of(whole):
                    held = orders_in(one)
                    if each in held and sum([dealing[other[1]] for other in held]) > worth(one[1]):
                        full = True
                if full:
                    dealing[name] -= bit * worth(weight)
                    rising.remove(each)
    return dealing


def random_pot(rng, most=6, ranks=3):
    """A whole pot of at most so many orders."""
    while True:
        found = random_part_of(rng, rng.sample(names(60), rng.randint(0, most)), ranks, 1)
        if len(paths_of(found)) <= 30:
            return found


def random_part_of(rng, some, ranks, within):
    members = []
    while some:
        if rng.randint(0, 2) and within < 4:
            few = rng.randint(0, len(some))
            members.append(random_part_of(rng, [some.pop() for _ in range(few)], ranks, within + 1))
        else:
            members.append(("order", some.pop(), part(rng.randint(0, 12), rng.randint(1, 2)),
                            rng.randint(1, ranks), part(rng.randint(1, 4), rng.randint(1, 2))))
    if rng.randint(0, 4) == 0:
        members.append(pot(rng.randint(0, 3)))
    return ("pot", part(rng.randint(0, 40), rng.randint(1, 3)), tuple(members))


class IsPotTest(unittest.TestCase):
    def test_pots(self):
        for thing in (TREE, pot(0), pot(5, order("a")), pot(0, order("abcdefgh", 0, 99, 5)), wide(30, 30), wide(30, 1),
                      wide(0, 30), deep(8), deep(8, (order("a"), order("b"))), pot(1, pot(1), pot(1), pot(2)),
                      ("pot", part(10 ** 40, 3), (("order", "a", part(10 ** 50, 7), 0, part(1, 10 ** 30)),))):
            self.assertIs(is_pot(thing), True)
        self.assertIs(is_pot(thing=TREE), True)

    def test_too_many(self):
        for thing in (wide(31, 1), wide(1, 31), wide(31, 31), deep(9), deep(9, (order("a"),)), wide(10 ** 4, 1),
                      pot(1, deep(7), deep(8)), pot(3, order("a"), pot(2, order("a"))),
                      pot(3, order("a"), order("a", 3, 4)), pot(3, pot(1, order("x")), pot(1, order("x")))):
            self.assertIs(is_pot(thing), False)
        shared = pot(1)
        for _ in range(7):
            shared = pot(1, *[shared] * 30)
        self.assertIs(is_pot(shared), False)
        self.assertIs(is_pot(pot(1, deep(6), deep(7))), True)

    def test_other_things(self):
        for thing in odd_things():
            self.assertIs(is_pot(thing), False)
            self.assertIs(is_pot(pot(3, thing)), False)
            self.assertIs(is_pot(pot(3, order("a"), pot(1, thing))), False)
            self.assertIs(is_pot(("pot", ONE, thing)), repr(thing) == "()")
            self.assertIs(is_pot((thing, ONE, ())), False)
            for at in range(5):
                row = list(order("a", 1, 5, 1))
                row[at] = thing
                fit = (at == 1 and type(thing) is str and thing in ("a", "ab")) or (
                    at == 3 and type(thing) is int and 0 <= thing <= 1)
                self.assertIs(is_pot(pot(3, tuple(row))), fit, repr(thing))
            if not is_amount(thing):
                self.assertIs(is_pot(("pot", thing, ())), False)
        for thing in (
            order("a"), (order("a"),), list(TREE), ("pot", ONE, [order("a")]), ("pot", ONE, order("a")),
            ("pot", ONE), ("pot", ONE, (), ()), ("Pot", ONE, ()), ("pot", (-1, 1), ()), ("pot", (2, 4), ()),
            ("pot", 3, ()), pot(3, list(order("a"))), pot(3, order("a")[:4]), pot(3, order("a") + (1,)),
            pot(3, order("a", -1)), pot(3, order("a", 1, 100)), pot(3, order("a", 1, -1)), pot(3, order("A")),
            pot(3, order("a", 1, 0, 0)), pot(3, order("a", 1, 0, -1)), pot(3, order("abcdefghi")),
            pot(3, order("")), pot(3, order("a", 1, True)), pot(3, order("a", 1, ONE)), nested(TREE, 12, tuple),
            pot(3, ("orders", "a", ONE, 0, ONE)), pot(3, ("pot", "a", ONE, 0, ONE)), pot(3, ("order", ONE, ())),
        ):
            self.assertIs(is_pot(thing), False, thing)

    def test_no_pot_ahead_of_all(self):
        for thing in odd_things() + [order("a"), wide(31, 1), deep(9), list(TREE)]:
            for call in (names_of, dealt, reasons_of, share_lines):
                refused(self, NoPot, call, thing)
            refused(self, NoPot, dealt, thing, cap=ONE)
            for other in ({}, None, Contrary()):
                refused(self, NoPot, dealing_right, thing, other)
                refused(self, NoPot, reasons_right, thing, other, other)
                refused(self, NoPot, bars_sum, thing, 3, other)
            refused(self, NoPot, bars_of, thing, 3)


class NamesTest(unittest.TestCase):
    def test_as_they_are_met(self):
        self.assertEqual(names_of(TREE), ("a", "b", "c", "d", "e", "f"))
        self.assertEqual(names_of(pot=pot(1, order("z"), pot(1, pot(1, order("y")), order("m")), order("b"))),
                         ("z", "y", "m", "b"))
        self.assertEqual(names_of(pot(1, pot(1), pot(2))), ())
        self.assertEqual(names_of(wide(30, 30)), tuple(names(30)))


class DealtTest(unittest.TestCase):
    def check(self, whole, dealing):
        """The dealing has reasons, by words and by the judge: so it is the even one."""
        self.assertEqual(tuple(dealing), names_of(whole))
        self.assertTrue(slow_is_dealing(whole, dealing))
        for name in dealing:
            self.assertNotEqual(slow_reasons(whole, dealing, name), [])

    def test_by_hand(self):
        for whole, amounts in (
            (pot(10, order("a", 3), order("b", 9), order("c", 9)), [3, Fraction(7, 2), Fraction(7, 2)]),
            (pot(10, order("a", 9, 2), order("b", 4, 1), order("c", 9, 2, 2)), [2, 4, 4]),
            (pot(100, order("a", 9), order("b", 4)), [9, 4]),
            (pot(0, order("a"), order("b")), [0, 0]),
            (pot(9, pot(0, order("a")), order("b", 0), order("c", 5)), [0, 0, 5]),
            (pot(9, pot(2, order("a"), order("b")), order("c")), [1, 1, 7]),
            (pot(9, pot(2, order("a", 10, 0, 3), order("b")), order("c", 10, 0)), [Fraction(3, 2), HALF_F, 7]),
            (pot(12, pot(6, order("a", 10, 1)), pot(6, order("b", 10, 1), order("c", 10, 2))), [6, 6, 0]),
            # One is met just as the pot's cap is reached.
            (pot(6, order("a", 3), order("b", 9)), [3, 3]),
            (pot(9, pot(4, order("a", 2), order("b", 2)), order("c", 5)), [2, 2, 5]),
            (TREE, [10, 8, 3, 5, 4, 0]),
        ):
            dealing = dealt(whole)
            self.assertEqual([worth(amount) for amount in dealing.values()], amounts)
            self.assertTrue(all([is_amount(amount) for amount in dealing.values()]))
            self.check(whole, dealing)
        self.assertEqual(dealt(pot(5)), {})

    def test_ranks_go_by_number(self):
        whole = pot(10, order("a", 6, 99), order("b", 6, 0), order("c", 6, 50))
        self.assertEqual(dealt(whole), {"a": NOUGHT, "b": part(6), "c": part(4)})

    def test_random_ones_have_reasons(self):
        rng = random.Random(201)
        for _ in range(300):
            whole = random_pot(rng, 9)
            self.check(whole, dealt(whole))

    def test_bit_by_bit(self):
        rng = random.Random(202)
        for _ in range(40):
            whole = random_pot(rng, 5)
            near, dealing = bit_by_bit(whole, 32), dealt(whole)
            for name, amount in near.items():
                self.assertLess(abs(amount - worth(dealing[name])), 1)

    def test_bit_by_bit_exactly(self):
        # Of these all levels at which one stops are met by sixths.
        for whole in (
            pot(12, order("a", 2), pot(6, order("b", 8, 0, 2), order("c", 1)), order("d", 9)),
            pot(20, pot(9, pot(4, order("a", 9), order("b", 9)), order("c", 3)), order("d", 4, 1), order("e", 9, 2)),
            pot(6, order("a", 9, 0, 2), order("b", 9, 0, 1)), TREE,
        ):
            exact = {name: worth(amount) for name, amount in dealt(whole).items()}
            self.assertEqual(bit_by_bit(whole, 6), exact)

    def test_by_another_cap(self):
        self.assertEqual(dealt(TREE, cap=part(10)), dealt(("pot", part(10), TREE[2])))
        self.assertEqual(dealt(TREE, cap=NOUGHT), dict.fromkeys("abcdef", NOUGHT))
        self.assertEqual(dealt(cap=part(10 ** 9), pot=TREE)["f"], part(9))
        self.assertEqual(dealt(TREE, cap=None), dealt(TREE))
        rng = random.Random(203)
        for _ in range(60):
            whole = random_pot(rng)
            ahead = None
            for cap in sorted([Fraction(rng.randint(0, 60), 3) for _ in range(5)]):
                dealing = dealt(whole, cap=as_part(cap))
                self.check(("pot", as_part(cap), whole[2]), dealing)
                for name, amount in (ahead or {}).items():
                    self.assertLessEqual(worth(amount), worth(dealing[name]))
                ahead = dealing

    def test_none_gives_any_rank_more(self):
        rng = random.Random(204)
        for _ in range(200):
            whole = random_pot(rng, 7)
            even = dealt(whole)
            for _ in range(5):
                other = {name: NOUGHT for name in even}
                for each in rng.sample(orders_in(whole), len(even)):
                    more = [worth(each[2])]
                    more.extend([worth(one[1]) - held_sum(one, other) for _, one in paths_of(whole)
                                 if each in orders_in(one)])
                    other[each[1]] = as_part(min(more) * rng.choice((1, 1, Fraction(1, 2))))
                self.assertIs(dealing_right(whole, other), True)
                for rank in range(1, 4):
                    some = [each[1] for each in orders_in(whole) if each[3] <= rank]
                    self.assertLessEqual(sum([worth(other[name]) for name in some]),
                                         sum([worth(even[name]) for name in some]))

    def test_most(self):
        whole = pot(50, *[order(name, 3, at % 4, at % 5 + 1) for at, name in enumerate(names(15))],
                    *[pot(2, order(name, 2), order(name + "x", 2)) for name in names(45)[30:37]], order("zz"))
        self.check(whole, dealt(whole))
        self.check(wide(30, 30), dealt(wide(30, 30)))
        self.assertEqual(dealt(deep(8, (order("a", 5), order("b", 5)))), {"a": part(3, 2), "b": part(3, 2)})

    def test_what_is_told_is_the_askers(self):
        told = dealt(TREE)
        told["a"] = None
        told.clear()
        self.assertEqual(dealt(TREE)["a"], part(10))
        reasons = reasons_of(TREE)
        reasons.clear()
        self.assertEqual(list(reasons_of(TREE)), list("abcdef"))
        self.assertIsNot(share_lines(TREE), share_lines(TREE))


class DealingRightTest(unittest.TestCase):
    def test_right_and_wrong(self):
        rng = random.Random(205)
        seen = {True: 0, False: 0}
        for _ in range(300):
            whole = random_pot(rng)
            even = dealt(whole)
            self.assertIs(dealing_right(whole, even), True)
            self.assertIs(dealing_right(pot=whole, thing=dict(reversed(list(even.items())))), True)
            for name in even:
                other = dict(even)
                other[name] = as_part(max(Fraction(0), worth(even[name]) + rng.choice((1, -1, Fraction(1, 9)))))
                right = slow_is_dealing(whole, other)
                seen[right] += 1
                self.assertIs(dealing_right(whole, other), right)
        self.assertGreater(min(seen.values()), 100)

    def test_other_things(self):
        even = dealt(TREE)
        for thing in odd_things():
            self.assertIs(dealing_right(TREE, thing), False)
            self.assertIs(dealing_right(pot(3), thing), type(thing) is dict and not thing)
            if not (is_amount(thing) and worth(thing) == 0):
                self.assertIs(dealing_right(TREE, {**even, "f": thing}), False)
        less_one = {name: amount for name, amount in even.items() if name != "f"}
        for thing in (less_one, {**even, "g": NOUGHT}, {**less_one, "g": NOUGHT}, {**less_one, 5: NOUGHT},
                      {**less_one, Sly("f"): NOUGHT}, {**less_one, None: NOUGHT}, {**even, "f": (-1, 1)},
                      {**even, "f": 0}, {**even, "f": (0, 2)}, {**even, "c": part(4)}, {**even, "b": part(9)},
                      {**even, "f": part(10)}, list(even.items()), tuple(even), {Sly("a"): 1, Sly("b"): 1}):
            self.assertIs(dealing_right(TREE, thing), False, thing)
        self.assertIs(dealing_right(TREE, dict.fromkeys("fedcba", NOUGHT)), True)
        at_cap = {**dict.fromkeys("abcdef", NOUGHT), "d": part(9), "e": NOUGHT}
        self.assertIs(dealing_right(TREE, at_cap), True)
        self.assertIs(dealing_right(TREE, {**at_cap, "e": part(1, 10 ** 20)}), False)


class ReasonsTest(unittest.TestCase):
    def test_by_hand(self):
        self.assertEqual(reasons_of(TREE), {"a": None, "b": None, "c": (), "d": (2,), "e": (2, 1), "f": ()})
        self.assertIn(reasons_of(pot=pot(3, pot(3, order("a", 9))))["a"], ((), (0,)))
        self.assertEqual(reasons_of(pot(3)), {})
        self.assertIs(reasons_right(pot(3), {}, {}), True)

    def test_told_ones_and_all_others(self):
        rng = random.Random(206)
        seen = {True: 0, False: 0}
        for _ in range(200):
            whole = random_pot(rng)
            even, reasons = dealt(whole), reasons_of(whole)
            self.assertEqual(list(reasons), list(even))
            self.assertIs(reasons_right(whole, even, reasons), True)
            for name in even:
                right = slow_reasons(whole, even, name)
                self.assertIn(reasons[name], right)
                for reason in [None, (99,), (0, 0, 0, 0, 0), (-1,), *[path for path, _ in paths_of(whole)]]:
                    fit = reason in right
                    seen[fit] += 1
                    self.assertIs(reasons_right(whole, even, {**reasons, name: reason}), fit)
        self.assertGreater(min(seen.values()), 100)

    def test_none_but_the_even_one_has_reasons(self):
        rng = random.Random(207)
        wrong = 0
        for _ in range(300):
            whole = random_pot(rng, 5)
            even = dealt(whole)
            other = dict(even)
            for name in rng.sample(sorted(even), min(len(even), 2)):
                other[name] = as_part(max(Fraction(0), worth(even[name]) + rng.choice((1, -1, HALF_F, -HALF_F))))
            if other == even:
                continue
            if slow_is_dealing(whole, other):
                wrong += 1
                self.assertIn([], [slow_reasons(whole, other, name) for name in other])
            self.assertIs(reasons_right(whole, other, reasons_of(whole)), False)
            reasons = {name: (slow_reasons(whole, other, name) or [()])[0] for name in other}
            self.assertIs(reasons_right(whole, other, reasons), False)
        self.assertGreater(wrong, 50)

    def test_met_ones_may_have_a_path(self):
        whole = pot(6, order("a", 3), order("b", 9))
        even = dealt(whole)
        for reasons, right in (({"a": None, "b": ()}, True), ({"a": (), "b": ()}, True),
                               ({"a": (), "b": None}, False), ({"a": None, "b": None}, False)):
            self.assertIs(reasons_right(whole, even, reasons), right)
        # At a lower level than the other's it may not.
        whole = pot(5, order("a", 2), order("b", 9))
        self.assertIs(reasons_right(whole, dealt(whole), {"a": (), "b": ()}), False)
        self.assertIs(reasons_right(whole, dealt(whole), {"a": None, "b": ()}), True)

    def test_higher_ranks_in_the_pot(self):
        whole = pot(10, order("a", 4, 1), order("b", 9, 2))
        even = dealt(whole)
        self.assertIs(reasons_right(whole, even, {"a": None, "b": ()}), True)
        self.assertIs(reasons_right(whole, even, {"a": (), "b": ()}), False)
        other = {"a": part(3), "b": part(7)}
        self.assertIs(dealing_right(whole, other), True)
        self.assertIs(reasons_right(whole, other, {"a": (), "b": ()}), False)
        # One with nothing needs no level: the pot is full of lesser ranks.
        whole = pot(4, order("a", 4, 1), order("b", 9, 2), order("c", 0, 3))
        self.assertIs(reasons_right(whole, dealt(whole), {"a": (), "b": (), "c": ()}), True)
        self.assertIs(reasons_right(whole, dealt(whole), {"a": None, "b": (), "c": None}), True)

    def test_other_things(self):
        even, reasons = dealt(TREE), reasons_of(TREE)
        self.assertIs(reasons_right(thing=reasons, dealing=even, pot=TREE), True)
        for thing in odd_things():
            self.assertIs(reasons_right(TREE, even, thing), False)
            self.assertIs(reasons_right(TREE, thing, reasons), False)
            self.assertIs(reasons_right(TREE, thing, thing), False)
            self.assertIs(reasons_right(TREE, even, {**reasons, "f": thing}), repr(thing) == "()")
        less_one = {name: reason for name, reason in reasons.items() if name != "f"}
        for thing in (less_one, {**reasons, "g": None}, {**less_one, Sly("f"): ()}, {**less_one, 3: ()},
                      {**reasons, "f": []}, {**reasons, "d": [2]}, {**reasons, "d": (2, 0)}, {**reasons, "d": (True,)},
                      {**reasons, "e": (2, True)}, {**reasons, "a": False}, {**reasons, "d": (2, 1)},
                      {**reasons, "d": (-2,)}, {**reasons, "d": ("2",)}, {**reasons, "d": (10 ** 40,)},
                      {**reasons, "d": (2, Contrary())}, {**reasons, "d": (0,)}, {**reasons, "d": (1,)}):
            self.assertIs(reasons_right(TREE, even, thing), False, thing)


class BarsTest(unittest.TestCase):
    def test_by_hand(self):
        for rank, bars in ((0, ((), ())), (-5, ((), ())), (1, (((2,),), ("a", "b"))), (99, (((),), ())),
                           (2, (((),), ())), (10 ** 30, (((),), ()))):
            self.assertEqual(bars_of(TREE, rank), bars)
        self.assertEqual(bars_of(rank=4, pot=pot(3)), ((), ()))
        self.assertEqual(bars_sum(TREE, 1, (((2,),), ("a", "b"))), part(27))
        self.assertEqual(bars_sum(thing=((), ()), rank=0, pot=TREE), NOUGHT)
        self.assertEqual(bars_sum(TREE, 1, (((), (2,), (2, 1)), ("a", "f"))), part(30 + 9 + 4 + 10 + 9))

    def test_told_ones_come_to_what_is_given(self):
        rng = random.Random(208)
        for _ in range(300):
            whole = random_pot(rng, 9)
            even = dealt(whole)
            for rank in (-10 ** 20, 0, 1, 2, 3, 50, 10 ** 20):
                bars = bars_of(whole, rank)
                given = sum([worth(even[each[1]]) for each in orders_in(whole) if each[3] <= rank], Fraction(0))
                self.assertEqual(bars_sum(whole, rank, bars), as_part(given))
                self.assertEqual(slow_bars_sum(whole, rank, *bars), given)
                for row in bars:
                    self.assertIs(type(row), tuple)
                    self.assertEqual(list(row), sorted(set(row)))

    def test_all_bars_come_to_no_less(self):
        rng = random.Random(209)
        none = 0
        for _ in range(300):
            whole = random_pot(rng)
            even = dealt(whole)
            paths, some = [path for path, _ in paths_of(whole)], list(even)
            for rank in range(4):
                given = sum([worth(even[each[1]]) for each in orders_in(whole) if each[3] <= rank], Fraction(0))
                thing = (tuple(sorted(rng.sample(paths, rng.randint(0, len(paths))))),
                         tuple(sorted(rng.sample(some, rng.randint(0, len(some))))))
                slow = slow_bars_sum(whole, rank, *thing)
                if slow is None:
                    none += 1
                    self.assertIsNone(bars_sum(whole, rank, thing))
                else:
                    self.assertGreaterEqual(slow, given)
                    self.assertEqual(bars_sum(whole, rank, thing), as_part(slow))
        self.assertTrue(100 < none < 1100)

    def test_no_bars(self):
        for thing in odd_things() + [
            ((), ("a", "b")), (((2,),), ("a",)), (((2,),), ("b", "a")), (((2,), ()), ()), (((), ()), ()),
            (((2,), (2,)), ("a", "b")), (((),), ("a", "a")), ([()], ()), (((),), ["a"]), [((),), ()], (((),),),
            (((),), (), ()), (((9,),), ("a", "b", "d", "e")), (((0,),), ("a", "b", "d", "e")), (((),), ("g",)),
            (((), (2, 0)), ()), (((),), (1,)), (((), (True,)), ()), (((), (-1,)), ()), (((), [2]), ()),
            (((), None), ()), (((),), (None,)), (((), Contrary()), ()), (((),), (Contrary(),)), ((Contrary(),), ()),
            ((), Contrary()), (Contrary(), ()), ({(): 1}, {}), (((),), {"a": 1}), (((),), "a"), ("", ""),
            (((), ("2",)), ()), (((),), (("a",),)), (((), (10 ** 30,)), ()),
        ]:
            self.assertIsNone(bars_sum(TREE, 1, thing), repr(thing))
        for thing in odd_things():
            if repr(thing) != "((), ())":
                self.assertIsNone(bars_sum(pot(3), 5, thing))
        self.assertEqual(bars_sum(pot(3), 5, ((), ())), NOUGHT)
        self.assertEqual(bars_sum(pot(3), 5, (((),), ())), part(3))


class ShareLinesTest(unittest.TestCase):
    def test_by_hand(self):
        lines = share_lines(pot(7, order("a", 3, 1), order("b", 4, 2, 3), order("c", 9, 2)))
        self.assertEqual(lines["a"], (((NOUGHT, NOUGHT), (part(3), part(3))), NOUGHT))
        self.assertEqual(lines["b"], (((NOUGHT, NOUGHT), (part(3), NOUGHT), (part(25, 3), part(4))), NOUGHT))
        self.assertEqual(lines["c"], (((NOUGHT, NOUGHT), (part(3), NOUGHT), (part(25, 3), part(4, 3)),
                                       (part(16), part(9))), NOUGHT))
        self.assertEqual(y_at(lines["b"], part(16, 3)), part(7, 4))
        self.assertEqual(share_lines(pot=pot(5, order("a", 0), pot(0, order("b")))),
                         {"a": (((NOUGHT, NOUGHT),), NOUGHT), "b": (((NOUGHT, NOUGHT),), NOUGHT)})
        self.assertEqual(share_lines(pot(4)), {})
        self.assertEqual(list(share_lines(TREE)), list("abcdef"))

    def test_by_each_cap(self):
        rng = random.Random(210)
        for _ in range(120):
            whole = random_pot(rng, 7)
            lines = share_lines(whole)
            self.assertEqual(list(lines), list(names_of(whole)))
            caps = {Fraction(rng.randint(0, 120), rng.randint(1, 5)) for _ in range(5)}
            for line in lines.values():
                self.assertIs(is_line(line), True)
                caps.update([worth(x) for x, _ in line[0]])
            for cap in [*caps, worth(whole[1]), Fraction(0), Fraction(10 ** 9)]:
                dealing = dealt(whole, cap=as_part(cap))
                self.assertEqual(dealing, {name: y_at(line, as_part(cap)) for name, line in lines.items()})


class InterfaceTest(unittest.TestCase):
    def test_names_of_arguments(self):
        for name, told in (
            ("is_pot", ["thing"]), ("names_of", ["pot"]), ("dealt", ["pot", "*cap=None"]),
            ("dealing_right", ["pot", "thing"]), ("reasons_of", ["pot"]),
            ("reasons_right", ["pot", "dealing", "thing"]), ("bars_of", ["pot", "rank"]),
            ("bars_sum", ["pot", "rank", "thing"]), ("share_lines", ["pot"]),
        ):
            self.assertEqual(parameters(getattr(pots, name)), told)
            self.assertEqual(getattr(pots, name).__module__, "paymill.pots")


if __name__ == "__main__":
    unittest.main()
