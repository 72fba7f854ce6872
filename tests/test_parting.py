"""Points 10 to 12: primes, the least divisor, the parting."""

import math
import unittest

from rootprime.errors import NoNumber, TooFar
from rootprime.parting import coprimes, divisors, least_divisor, parted, primes_to, whole_of
from tests.helper import SIXTY, is_plain, is_prime, soon

BOUND = 10 ** 9
# The two greatest primes below 10 ** 9, the greatest whose square is below it, and products of two great ones.
GREAT_PRIMES = (999999937, 999999929, 31607)
PRODUCTS = ((31607, 31607), (31601, 31607), (2, 499999993), (31607, 31627), (3, 333333313))


class PrimesTo(unittest.TestCase):

    def test_small_ones(self):
        for n in range(-3, 300):
            self.assertEqual(primes_to(n), [k for k in range(2, n + 1) if is_prime(k)], n)

    def test_edges(self):
        for n in (1, 0, -1, -SIXTY):
            self.assertEqual(primes_to(n), [])
        self.assertEqual(primes_to(2), [2])
        with soon():
            told = primes_to(10000)
        self.assertEqual(told, [k for k in range(2, 10001) if is_prime(k)])
        self.assertEqual((len(told), told[-1]), (1229, 9973))
        self.assertTrue(is_plain(told))

    def test_too_far(self):
        for n in (10001, 10 ** 9, SIXTY):
            with self.assertRaises(TooFar) as told:
                primes_to(n)
            self.assertEqual(told.exception.part, n)

    def test_the_asker_owns_it(self):
        primes_to(20).append(1)
        self.assertEqual(primes_to(20), [2, 3, 5, 7, 11, 13, 17, 19])


class LeastDivisor(unittest.TestCase):

    def test_small_ones(self):
        for n in range(2, 2000):
            self.assertEqual(least_divisor(n), min(d for d in range(2, n + 1) if n % d == 0), n)

    def test_great_ones(self):
        with soon():
            for prime in GREAT_PRIMES:
                self.assertEqual(least_divisor(prime), prime)
            for one, other in PRODUCTS:
                self.assertEqual(least_divisor(one * other), one)
            self.assertEqual(least_divisor(BOUND), 2)
            self.assertEqual(least_divisor(BOUND - 1), 3)
        self.assertIs(type(least_divisor(9)), int)

    def test_no_number(self):
        for n in (1, 0, -1, -7, -SIXTY):
            with self.assertRaises(NoNumber):
                least_divisor(n)

    def test_too_far(self):
        for n in (BOUND + 1, 10 ** 12, SIXTY):
            with self.assertRaises(TooFar) as told:
                least_divisor(n)
            self.assertEqual(told.exception.part, n)


class Parted(unittest.TestCase):

    def look(self, n):
        told = parted(n)
        self.assertIs(type(told), list)
        self.assertTrue(all(type(row) is tuple and len(row) == 2 for row in told))
        self.assertTrue(is_plain(told))
        primes = [prime for prime, _ in told]
        self.assertEqual(primes, sorted(set(primes)))
        self.assertTrue(all(is_prime(prime) for prime in primes), told)
        self.assertTrue(all(many >= 1 for _, many in told), told)
        self.assertEqual(math.prod(prime ** many for prime, many in told), n)
        self.assertEqual(whole_of(told), n)

    def test_small_ones(self):
        for n in range(1, 3000):
            self.look(n)

    def test_written_out(self):
        self.assertEqual(parted(1), [])
        self.assertEqual(parted(2), [(2, 1)])
        self.assertEqual(parted(49), [(7, 2)])
        self.assertEqual(parted(97), [(97, 1)])
        self.assertEqual(parted(360), [(2, 3), (3, 2), (5, 1)])
        self.assertEqual(parted(BOUND), [(2, 9), (5, 9)])

    def test_great_ones(self):
        with soon():
            for prime in GREAT_PRIMES:
                self.assertEqual(parted(prime), [(prime, 1)])
            for one, other in PRODUCTS:
                right = [(one, 2)] if one == other else [(one, 1), (other, 1)]
                self.assertEqual(parted(one * other), right)
            for n in (2 ** 29, 3 ** 18, 735134400, 997 ** 3, BOUND - 1, BOUND - 2):
                self.look(n)

    def test_no_number(self):
        for n in (0, -1, -12, -SIXTY):
            with self.assertRaises(NoNumber):
                parted(n)

    def test_too_far(self):
        for n in (BOUND + 1, 10 ** 18, SIXTY):
            with self.assertRaises(TooFar) as told:
                parted(n)
            self.assertEqual(told.exception.part, n)

    def test_the_asker_owns_it(self):
        for n in (1, 12):
            told = parted(n)
            told.append((5, 1))
            self.assertEqual(parted(n), [] if n == 1 else [(2, 2), (3, 1)])


class OfAParting(unittest.TestCase):

    def test_small_ones(self):
        for n in range(1, 500):
            parting = parted(n)
            self.assertEqual(whole_of(parting), n)
            self.assertEqual(divisors(parting), [d for d in range(1, n + 1) if n % d == 0])
            self.assertEqual(coprimes(parting), len([k for k in range(1, n + 1) if math.gcd(k, n) == 1]))

    def test_of_one(self):
        self.assertEqual(whole_of([]), 1)
        self.assertEqual(divisors([]), [1])
        self.assertEqual(coprimes([]), 1)

    def test_great_ones(self):
        with soon():
            most = parted(735134400)
            self.assertEqual(len(divisors(most)), 1344)
            self.assertEqual(divisors(most), sorted(set(divisors(most))))
            self.assertTrue(all(735134400 % d == 0 for d in divisors(most)))
            self.assertEqual(coprimes([(999999937, 1)]), 999999936)
            self.assertEqual(coprimes([(31607, 2)]), 31607 * 31606)
            self.assertEqual(divisors([(2, 9), (5, 9)])[-3:], [250000000, 500000000, BOUND])
            self.assertEqual(coprimes([(2, 9), (5, 9)]), 400000000)

    def test_kinds(self):
        self.assertIs(type(divisors([(2, 1)])), list)
        self.assertTrue(is_plain([whole_of([]), coprimes([]), divisors([(2, 1)])]))

    def test_nothing_is_changed(self):
        for ask in (whole_of, divisors, coprimes):
            parting = [(2, 3), (3, 2), (5, 1)]
            ask(parting)
            self.assertEqual(parting, [(2, 3), (3, 2), (5, 1)])

    def test_the_asker_owns_it(self):
        for parting in ([], [(2, 1)], [(2, 2), (7, 1)]):
            told = divisors(parting)
            right = list(told)
            told.append(9)
            told[0] = 5
            self.assertEqual(divisors(parting), right)


if __name__ == "__main__":
    unittest.main()
