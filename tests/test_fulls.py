"""Point 20: full numbers."""

import unittest

from rootprime.fulls import full_from, fulls, how_many_full, is_full
from rootprime.parting import coprimes, parted
from rootprime.primepapers import prime_paper
from tests.helper import SIXTY, is_plain, is_prime, order_by_hand, soon

PRIMES = [n for n in range(2, 130) if is_prime(n)]
GREAT_PRIMES = (71850239, 998244353, 999999929, 999999937)


def fulls_by_hand(p):
    return [a for a in range(1, p) if order_by_hand(p, a) == p - 1]


def is_full_by_hand(p, a):
    return all(pow(a, (p - 1) // q, p) != 1 for q, _ in parted(p - 1)) and a % p != 0


class Fulls(unittest.TestCase):

    def test_is_full(self):
        for p in PRIMES:
            paper = prime_paper(p)
            right = fulls_by_hand(p)
            for a in range(-p - 2, 2 * p + 3):
                self.assertIs(is_full(paper, a), a % p in right, (p, a))

    def test_is_full_of_great_ones(self):
        for p in GREAT_PRIMES:
            paper = prime_paper(p)
            for a in (0, 1, p, p - 1, paper[1], paper[1] + p, paper[1] - p, 2, 3, -3, SIXTY, -SIXTY, p * 10 ** 50):
                self.assertIs(is_full(paper, a), is_full_by_hand(p, a), (p, a))

    def test_full_from(self):
        for p in PRIMES:
            paper = prime_paper(p)
            right = fulls_by_hand(p)
            for a in range(-3, p + 4):
                told = full_from(paper, a)
                self.assertEqual(told, min([x for x in right if x >= a], default=None), (p, a))
                self.assertIn(type(told), (int, type(None)))

    def test_full_from_edges(self):
        for p, paper in [(p, prime_paper(p)) for p in (2, 3, 7, 47, 999999937)]:
            for a in (1, 0, -1, -p, -SIXTY):
                self.assertEqual(full_from(paper, a), paper[1])
            for a in (p, p + 1, p + paper[1], 2 * p, SIXTY):
                self.assertIsNone(full_from(paper, a))
        self.assertEqual(full_from(prime_paper(2), 1), 1)
        self.assertIsNone(full_from(prime_paper(2), 2))
        self.assertEqual(full_from(prime_paper(3), 2), 2)
        self.assertIsNone(full_from(prime_paper(3), 3))
        self.assertEqual(full_from(prime_paper(7), 4), 5)
        self.assertEqual(full_from(prime_paper(7), 5), 5)
        self.assertIsNone(full_from(prime_paper(7), 6))

    def test_full_from_at_the_end_of_great_ones(self):
        with soon():
            for p in GREAT_PRIMES:
                paper = prime_paper(p)
                last = p - 1
                while not is_full_by_hand(p, last):
                    last -= 1
                self.assertEqual(full_from(paper, last), last)
                self.assertIsNone(full_from(paper, last + 1))

    def test_fulls(self):
        for p in PRIMES:
            paper = prime_paper(p)
            right = fulls_by_hand(p)
            for many in (0, 1, 2, 5, 99, 100):
                told = fulls(paper, many)
                self.assertEqual(told, right[:many], (p, many))
                self.assertIs(type(told), list)
                self.assertTrue(is_plain(told))

    def test_fulls_edges(self):
        self.assertEqual(fulls(prime_paper(2), 100), [1])
        self.assertEqual(fulls(prime_paper(2), 0), [])
        self.assertEqual(fulls(prime_paper(3), 100), [2])
        self.assertEqual(fulls(prime_paper(7), 1), [3])
        self.assertEqual(fulls(prime_paper(7), 100), [3, 5])

    def test_fulls_of_great_ones(self):
        with soon():
            for p in GREAT_PRIMES + (367567201,):
                told = fulls(prime_paper(p), 100)
                self.assertEqual(len(told), 100)
                self.assertEqual(told, [a for a in range(told[-1] + 1) if is_full_by_hand(p, a)])

    def test_the_asker_owns_it(self):
        paper = prime_paper(7)
        fulls(paper, 5).append(9)
        fulls(paper, 0).append(9)
        self.assertEqual(fulls(paper, 5), [3, 5])
        self.assertEqual(fulls(paper, 0), [])
        self.assertEqual(paper, prime_paper(7))

    def test_how_many(self):
        for p in PRIMES:
            told = how_many_full(prime_paper(p))
            self.assertEqual(told, len(fulls_by_hand(p)), p)
            self.assertIs(type(told), int)
        for p in GREAT_PRIMES:
            self.assertEqual(how_many_full(prime_paper(p)), coprimes(parted(p - 1)))


if __name__ == "__main__":
    unittest.main()
