"""Points 5 to 7: rests, the divisor of two numbers, the inverse."""

import math
import unittest

from rootprime.errors import NoInverse
from rootprime.rests import divisor, inverse
from tests.helper import GREAT, SIXTY, is_plain, soon


class Divisor(unittest.TestCase):

    def look(self, a, b):
        told = divisor(a, b)
        self.assertIs(type(told), tuple)
        self.assertEqual(len(told), 3)
        self.assertTrue(is_plain(told), told)
        g, u, v = told
        self.assertEqual(g, math.gcd(a, b), (a, b))
        self.assertEqual(u * a + v * b, g, (a, b))
        self.assertLessEqual(abs(u), max(abs(b), 1), (a, b))
        self.assertLessEqual(abs(v), max(abs(a), 1), (a, b))

    def test_all_small_ones_of_either_sign(self):
        for a in range(-40, 41):
            for b in range(-40, 41):
                self.look(a, b)

    def test_nought_and_nought(self):
        self.assertEqual(divisor(0, 0)[0], 0)
        self.look(0, 0)

    def test_nought_with_each_side(self):
        for a in (1, -1, 12, -12) + GREAT:
            self.look(a, 0)
            self.look(0, a)
            self.assertEqual(divisor(a, 0)[0], abs(a))
            self.assertEqual(divisor(0, a)[0], abs(a))

    def test_one_a_multiple_of_the_other(self):
        for a in (1, 6, -6, 10 ** 29 + 7):
            for times in (1, -1, 2, -3, 10 ** 29):
                self.look(a, a * times)
                self.look(a * times, a)

    def test_sixty_figures(self):
        for a in GREAT:
            for b in GREAT + (2, 3, 6, 7 ** 60, 10 ** 30):
                self.look(a, b)
                self.look(b, a)

    def test_the_longest_walk(self):
        one, other = 1, 1
        while other < SIXTY:
            one, other = other, one + other
        with soon():
            self.look(one, other)
            self.look(-other, one)


class Inverse(unittest.TestCase):

    def test_all_small_ones(self):
        for n in range(1, 60):
            for a in range(-70, 130):
                right = [x for x in range(n) if (x * a - 1) % n == 0]
                if right:
                    told = inverse(n, a)
                    self.assertEqual([told], right, (n, a))
                    self.assertIs(type(told), int)
                else:
                    self.assert_none(n, a)

    def assert_none(self, n, a):
        with self.assertRaises(NoInverse) as told:
            inverse(n, a)
        self.assertEqual(told.exception.divisor, math.gcd(n, a), (n, a))
        self.assertIs(type(told.exception.divisor), int)

    def test_by_one(self):
        for a in (0, 1, -1, 5) + GREAT:
            self.assertEqual(inverse(1, a), 0)

    def test_none(self):
        for n, a in ((2, 0), (10, 4), (10, -4), (10, 24), (10, 0), (7, 14), (7, -49), (SIXTY, 9), (9, SIXTY)):
            self.assert_none(n, a)

    def test_sixty_figures(self):
        n = 10 ** 59 + 1
        for a in (2, -2, 10 ** 60 - 3, -(10 ** 60 - 3), 3 * 10 ** 59 + 4):
            told = inverse(n, a)
            self.assertTrue(0 <= told < n)
            self.assertEqual(told * a % n, 1)

    def test_a_below_nought_and_above_n(self):
        self.assertEqual(inverse(7, -1), 6)
        self.assertEqual(inverse(7, -4), 5)
        self.assertEqual(inverse(7, 3 + 70), 5)


if __name__ == "__main__":
    unittest.main()
