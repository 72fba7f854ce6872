"""Points 8 and 9: powers, and their rows."""

import copy
import math
import unittest

from rootprime.errors import NoInverse
from rootprime.powers import is_power_row, power, power_row
from tests.helper import GREAT, SIXTY, bends, every_kind, is_plain, soon


class Power(unittest.TestCase):

    def test_all_small_ones(self):
        for n in range(1, 20):
            for a in range(-25, 45):
                product = 1
                for e in range(12):
                    told = power(n, a, e)
                    self.assertEqual(told, product % n, (n, a, e))
                    self.assertIs(type(told), int)
                    product *= a

    def test_nought(self):
        self.assertEqual(power(7, 0, 0), 1)
        self.assertEqual(power(7, 0, 5), 0)
        self.assertEqual(power(1, 0, 0), 0)

    def test_by_one(self):
        for a in (0, 1, -3) + GREAT:
            for e in (0, 1, 2, -1, -2, SIXTY, -SIXTY):
                self.assertEqual(power(1, a, e), 0)

    def test_below_nought(self):
        for n in range(2, 30):
            for a in range(-35, 65):
                for e in range(-6, 0):
                    if math.gcd(n, a) == 1:
                        self.assertEqual(power(n, a, e), pow(a, e, n), (n, a, e))
                    else:
                        with self.assertRaises(NoInverse) as told:
                            power(n, a, e)
                        self.assertEqual(told.exception.divisor, math.gcd(n, a))

    def test_sixty_figures(self):
        n = 10 ** 59 + 1
        with soon():
            for modulus in (n, 2, 10 ** 9 + 7, SIXTY):
                for a in (2, -2, n - 1, 10 ** 60 - 3) + GREAT:
                    for e in (SIXTY, 10 ** 59, SIXTY - 1):
                        self.assertEqual(power(modulus, a, e), pow(a, e, modulus))
                        if math.gcd(a, modulus) == 1:
                            self.assertEqual(power(modulus, a, -e), pow(a, -e, modulus))


class PowerRow(unittest.TestCase):

    def look(self, n, a, e):
        row = power_row(n, a, e)
        self.assertIs(type(row), list)
        self.assertTrue(all(type(pair) is tuple and len(pair) == 2 for pair in row))
        self.assertTrue(is_plain(row))
        self.assertEqual(row[0][0], 0)
        self.assertEqual(row[-1][0], e)
        for (one, _), (other, _) in zip(row, row[1:]):
            self.assertIn(other - 2 * one, (0, 1))
            self.assertGreaterEqual(other, 1)
        for exponent, rest in row:
            self.assertEqual(rest, pow(a, exponent, n))
        self.assertIs(is_power_row(n, a, e, row), True)

    def test_rows(self):
        for n in (1, 2, 3, 7, 12, 1000, SIXTY):
            for a in (0, 1, 2, -5, 13, SIXTY):
                for e in list(range(20)) + [1000, 10 ** 9, SIXTY, 10 ** 59]:
                    self.look(n, a, e)

    def test_written_out(self):
        self.assertEqual(power_row(7, 3, 0), [(0, 1)])
        self.assertEqual(power_row(1, 3, 0), [(0, 0)])
        self.assertEqual(power_row(7, 3, 1), [(0, 1), (1, 3)])
        self.assertEqual(power_row(7, 3, 6), [(0, 1), (1, 3), (3, 6), (6, 1)])
        self.assertEqual(power_row(7, -4, 6), [(0, 1), (1, 3), (3, 6), (6, 1)])

    def test_the_asker_owns_it(self):
        row = power_row(7, 3, 6)
        row.clear()
        self.assertEqual(power_row(7, 3, 6), [(0, 1), (1, 3), (3, 6), (6, 1)])


class IsPowerRow(unittest.TestCase):

    def test_bent_at_each_place(self):
        for n, a, e in ((7, 3, 0), (7, 3, 1), (7, 1, 5), (7, 3, 6), (1, 4, 3), (2, 1, 2), (1000, -7, 100)):
            row = power_row(n, a, e)
            many = 0
            for bent in bends(row):
                many += 1
                self.assertIs(is_power_row(n, a, e, bent), False, (n, a, e, bent))
            self.assertGreater(many, 50)

    def test_truths(self):
        self.assertIs(is_power_row(7, 1, 1, [(0, 1), (1, 1)]), True)
        for row in ([(False, 1), (1, 1)], [(0, True), (1, 1)], [(0, 1), (True, 1)], [(0, 1), (1, True)]):
            self.assertIs(is_power_row(7, 1, 1, row), False)
        self.assertIs(is_power_row(1, 1, 0, [(0, False)]), False)

    def test_lists_and_tuples(self):
        row = power_row(7, 3, 6)
        self.assertIs(is_power_row(7, 3, 6, tuple(row)), False)
        self.assertIs(is_power_row(7, 3, 6, [list(pair) for pair in row]), False)
        self.assertIs(is_power_row(7, 3, 6, row[:-1] + [list(row[-1])]), False)

    def test_another_power_is_not_it(self):
        row = power_row(101, 3, 50)
        self.assertIs(is_power_row(101, 3, 50, row), True)
        self.assertIs(is_power_row(101, -98, 50, row), True)
        self.assertIs(is_power_row(101, 4, 50, row), False)
        self.assertIs(is_power_row(103, 3, 50, row), False)
        self.assertIs(is_power_row(101, 3, 49, row), False)
        self.assertIs(is_power_row(101, 3, 50, row + [row[-1]]), False)
        # Rests that aren't reduced, and exponents that don't double.
        self.assertIs(is_power_row(101, 3, 1, [(0, 1), (1, 104)]), False)
        self.assertIs(is_power_row(101, 3, 1, [(0, 1), (0, 1), (1, 3)]), False)
        self.assertIs(is_power_row(101, 3, 2, [(0, 1), (2, 9)]), False)

    def test_every_kind(self):
        for thing in every_kind() + [1.0, b"a", {}, {0: 1}, {(0, 1)}, [(0, 1.0)], [{}]]:
            self.assertIs(is_power_row(7, 3, 6, thing), False, thing)
            self.assertIs(is_power_row(7, 3, 0, thing), False, thing)

    def test_nothing_is_changed(self):
        for thing in [power_row(7, 3, 6), [[0, 1]], [(0, 1), [1, 3]]]:
            kept = copy.deepcopy(thing)
            is_power_row(7, 3, 6, thing)
            self.assertEqual(thing, kept)


if __name__ == "__main__":
    unittest.main()
