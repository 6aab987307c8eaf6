import random
import unittest
from fractions import Fraction
from math import floor

from common import Contrary, as_part, nested, odd_things, parameters, random_part, refused, worth
from paymill import payments as payments_file
from paymill.errors import NoAmount
from paymill.parts import NOUGHT, ONE, part
from paymill.payments import held_by, payments, payments_right

HALF = part(1, 2)


def wholes(*numbers):
    return [part(number) for number in numbers]


def triples(*rows):
    return tuple([tuple([part(one) for one in row]) for row in rows])


def slow_payments(totals, share):
    """Triples of fractions, total by total, by the words of 8.1."""
    ahead, in_all, debt, told = Fraction(0), Fraction(0), Fraction(0), []
    for total in [worth(one) for one in totals]:
        new = total - ahead
        ahead = total
        now = Fraction(0)
        if new <= 0:
            debt += -new
        else:
            kept = min(debt, share * new)
            now = new - kept
            debt -= kept
        in_all += now
        told.append((now, in_all, debt))
    return told


def random_totals(rng):
    totals = [random_part(rng, -20, 60)]
    for _ in range(rng.randint(0, 12)):
        totals.append(rng.choice((totals[-1], random_part(rng, -20, 60), NOUGHT, rng.choice(totals))))
    return totals[rng.randint(0, 1):]


class PaymentsTest(unittest.TestCase):
    def test_by_hand_share_one(self):
        totals = wholes(10, 30, 25, 20, 28, 35, 35, 0, 36)
        self.assertEqual(payments(totals), triples(
            (10, 10, 0), (20, 30, 0), (0, 30, 5), (0, 30, 10), (0, 30, 2), (5, 35, 0), (0, 35, 0),
            (0, 35, 35), (1, 36, 0)))
        self.assertEqual(payments(totals=tuple(totals)), payments(totals))
        self.assertEqual(payments(share=ONE, whole=False, totals=totals), payments(totals))

    def test_by_hand_half(self):
        totals = wholes(10, 4, 8, 8, 28)
        self.assertEqual(payments(totals, share=HALF), triples(
            (10, 10, 0), (0, 10, 6), (2, 12, 4), (0, 12, 4), (16, 28, 0)))

    def test_kept_is_the_lesser(self):
        # Of 4 that are new a half is just the debt, then more, then less.
        for ahead, now, debt in ((8, 2, 0), (9, 3, 0), (7, 2, 1)):
            row = payments(wholes(10, ahead, ahead + 4), share=HALF)
            self.assertEqual(row[2], (part(now), part(10 + now), part(debt)))

    def test_totals_below_and_of_nought(self):
        self.assertEqual(payments(wholes(-5, 3, -5)), triples((0, 0, 5), (3, 3, 0), (0, 3, 8)))
        self.assertEqual(payments(wholes(-5, 3), share=HALF), triples((0, 0, 5), (4, 4, 1)))
        self.assertEqual(payments(wholes(0, 0)), triples((0, 0, 0), (0, 0, 0)))
        self.assertEqual(payments(()), ())
        self.assertEqual(payments([]), ())
        self.assertEqual(payments([], whole=True), ())

    def test_whole_pence(self):
        totals = [part(1, 2), part(5, 3), part(8, 3), part(1), part(7, 2)]
        self.assertEqual(payments(totals, whole=True), (
            (0, 0, NOUGHT), (1, 1, NOUGHT), (1, 2, NOUGHT), (0, 2, part(5, 3)), (1, 3, NOUGHT)))
        for triple in payments(totals, whole=True):
            self.assertEqual([type(one) for one in triple], [int, int, tuple])

    def test_total_by_total(self):
        rng = random.Random(91)
        for _ in range(400):
            totals = random_totals(rng)
            share = rng.choice((Fraction(1), Fraction(1, 2), Fraction(1, 1000), Fraction(999, 1000),
                                Fraction(rng.randint(1, 7), 7)))
            slow = slow_payments(totals, share)
            told = payments(totals, share=as_part(share))
            self.assertEqual(told, tuple([tuple([as_part(one) for one in row]) for row in slow]))
            whole = payments(totals, share=as_part(share), whole=True)
            paid = 0
            for (now, in_all, debt), (_, slow_in_all, slow_debt) in zip(whole, slow):
                self.assertEqual((in_all, now, debt), (floor(slow_in_all), in_all - paid, as_part(slow_debt)))
                self.assertGreaterEqual(now, 0)
                paid = in_all
            for total, (now, in_all, debt) in zip(totals, told):
                self.assertEqual(worth(in_all) - worth(debt), worth(total))
                self.assertGreaterEqual(min(worth(now), worth(debt)), 0)

    def test_share_one_pays_the_greatest(self):
        rng = random.Random(92)
        for _ in range(200):
            totals = random_totals(rng)
            for at, (_, in_all, _) in enumerate(payments(totals)):
                self.assertEqual(worth(in_all), max([Fraction(0), *[worth(one) for one in totals[:at + 1]]]))

    def test_no_share(self):
        for share in odd_things() + [NOUGHT, (-1, 2), (1001, 1000), (2, 1), (10 ** 30 + 1, 10 ** 30), 1, "1",
                                     (1, 0), (2, 4), [1, 1], (True, 1)]:
            for totals in ((), wholes(1, 2), [NOUGHT]):
                refused(self, NoAmount, payments, totals, share=share)
                refused(self, NoAmount, payments, totals, share=share, whole=True)
                refused(self, NoAmount, payments_right, totals, (), share=share)
        payments(wholes(1, 2), share=(10 ** 30 - 1, 10 ** 30))

    def test_nothing_is_changed(self):
        totals = wholes(5, 3, 9)
        payments(totals)
        payments_right(totals, ())
        held_by(totals)
        self.assertEqual(totals, wholes(5, 3, 9))


class HeldByTest(unittest.TestCase):
    def test_by_hand(self):
        for totals, number in (
            ((), None), ((0,), None), ((-3, 0, -1), None), ((1,), 0), ((0, 1, 1), 1), ((5, 7, 7, 6), 1),
            ((5, 7, 8, 6, 8), 2), ((-1, 0, 3, 2), 2), ((9, 7, 8), 0),
        ):
            self.assertEqual(held_by(wholes(*totals)), number)
            self.assertEqual(held_by(totals=tuple(wholes(*totals))), number)
        self.assertEqual(held_by([part(1, 3), part(2, 6), part(333, 1000), part(334, 1000)]), 3)

    def test_it_holds_what_is_paid(self):
        rng = random.Random(93)
        for _ in range(200):
            totals = random_totals(rng)
            number = held_by(totals)
            in_all = payments(totals)[-1][1] if totals else NOUGHT
            if number is None:
                self.assertEqual(in_all, NOUGHT)
            else:
                self.assertEqual(totals[number], in_all)
                self.assertNotIn(in_all, totals[:number])


class RightTest(unittest.TestCase):
    def test_right(self):
        rng = random.Random(94)
        for _ in range(150):
            totals = random_totals(rng)
            share = part(rng.randint(1, 5), 5)
            told = payments(totals, share=share)
            self.assertIs(payments_right(totals, told, share=share), True)
            self.assertIs(payments_right(tuple(totals), thing=told, share=share), True)
            for at in range(len(told)):
                for place in range(3):
                    row = [list(triple) for triple in told]
                    row[at][place] = as_part(worth(row[at][place]) + rng.choice((1, -1, Fraction(1, 7))))
                    wrong = tuple([tuple(triple) for triple in row])
                    self.assertIs(payments_right(totals, wrong, share=share), False)
                self.assertIs(payments_right(totals, told[:at] + told[at + 1:], share=share), False)
            self.assertIs(payments_right(totals, told + (told or ((NOUGHT, NOUGHT, NOUGHT),))[-1:],
                                         share=share), False)

    def test_by_another_share(self):
        totals = wholes(10, 4, 8)
        self.assertIs(payments_right(totals, payments(totals, share=HALF)), False)
        self.assertIs(payments_right(totals, payments(totals), share=HALF), False)
        self.assertIs(payments_right(totals, payments(totals, share=HALF), share=HALF), True)

    def test_other_things(self):
        totals = wholes(10, 4)
        told = payments(totals)
        self.assertIs(payments_right(totals, told), True)
        for thing in odd_things() + [
            list(told), tuple([list(triple) for triple in told]), payments(totals, whole=True),
            (told[0], Contrary()), (told[0], None), (told[0], (NOUGHT, part(10), Contrary())), (told,),
            (told[0], (NOUGHT, part(10), [6, 1])), (told[0], (NOUGHT, part(10), (12, 2))),
            (told[0], (NOUGHT, part(10), (6, True))), (told[0], (False, part(10), (6, 1))),
            (told[0], ((False, 1), part(10), (6, 1))), nested(told, 18, tuple), {0: told[0], 1: told[1]},
        ]:
            self.assertIs(payments_right(totals, thing), False, repr(thing))
        for thing in odd_things():
            self.assertIs(payments_right((), thing), repr(thing) == "()")


class InterfaceTest(unittest.TestCase):
    def test_names_of_arguments(self):
        for name, told in (
            ("payments", ["totals", "*share=(1, 1)", "*whole=False"]), ("held_by", ["totals"]),
            ("payments_right", ["totals", "thing", "*share=(1, 1)"]),
        ):
            self.assertEqual(parameters(getattr(payments_file, name)), told)
            self.assertEqual(getattr(payments_file, name).__module__, "paymill.payments")


if __name__ == "__main__":
    unittest.main()
