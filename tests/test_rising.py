import random
import unittest

from paymill.rising import is_rising, pairs_below


class IsRisingTest(unittest.TestCase):
    def test_rows(self):
        for row in ((), (5,), (1, 2), [-3, 0, 10 ** 30], ("a", "b"), ((), (0,), (0, 1), (1,))):
            self.assertIs(is_rising(row), True)
        for row in ((1, 1), (2, 1), (1, 3, 2), [1, 2, 2], ("b", "a"), ((0,), ())):
            self.assertIs(is_rising(row), False)


class PairsBelowTest(unittest.TestCase):
    def test_against_counting(self):
        rng = random.Random(91)
        for _ in range(200):
            firsts = sorted(rng.sample(range(-20, 20), rng.randint(0, 12)))
            pairs = [(first, None) for first in firsts]
            for number in range(-22, 22):
                below = len([first for first in firsts if first < number])
                self.assertEqual(pairs_below(pairs, number), below)
                self.assertEqual(pairs_below(tuple(pairs), number), below)


if __name__ == "__main__":
    unittest.main()
