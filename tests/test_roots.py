"""Points 23 and 24: roots of any order."""

import math
import unittest

from rootprime.errors import TooMany
from rootprime.primepapers import prime_paper
from rootprime.roots import roots
from tests.helper import (
    GREAT, GREAT_PRIMES, SIXTY, SMALL_PRIMES, factors, is_one_of, other_papers, soon, told_roots,
)


def is_order_by_parts(p, turn, d):
    """Whether the order of turn by p is d."""
    return pow(turn, d, p) == 1 and all(pow(turn, d // q, p) != 1 for q, _ in factors(d))


class Roots(unittest.TestCase):

    def look(self, paper, k, a):
        """What is told of a great prime, by the words of 23 and 24: as many roots as there are, so all."""
        p = paper[0]
        d = math.gcd(k, p - 1)
        e = (p - 1) // d
        found, shown = told = roots(paper, k, a)
        if a % p == 0:
            self.assertEqual(told, ([0], ("nought",)))
        elif pow(a, e, p) != 1:
            self.assertEqual(told, ([], ("none", e, pow(a, e, p))))
        else:
            self.assertEqual(len(found), d)
            self.assertEqual(found, sorted(set(found)))
            self.assertTrue(all(0 <= x < p and (pow(x, k, p) - a) % p == 0 for x in found))
            self.assertEqual(shown[:2], ("turned", found[0]))
            self.assertEqual(len(shown), 3)
            self.assertTrue(0 < shown[2] < p and is_order_by_parts(p, shown[2], d))
        return found

    def test_small_primes(self):
        for p in SMALL_PRIMES[:12]:
            paper = prime_paper(p)
            for k in list(range(1, 14)) + [p - 1, p, 2 * p - 2, 3 * p, 10 ** 9]:
                for a in range(-2, p + 2):
                    self.assertTrue(is_one_of(roots(paper, k, a), told_roots(p, k, a)), (p, k, a))

    def test_each_order_that_divides(self):
        for p in (61, 97, 109, 127, 163, 193, 257, 401):
            paper = prime_paper(p)
            for k in [k for k in range(1, p) if (p - 1) % k == 0]:
                for a in (0, 1, 2, paper[1], pow(2, k, p), pow(paper[1], k, p), p - 1):
                    self.assertTrue(is_one_of(roots(paper, k, a), told_roots(p, k, a)), (p, k, a))

    def test_written_out(self):
        self.assertEqual(roots(prime_paper(2), 1, 1), ([1], ("turned", 1, 1)))
        self.assertEqual(roots(prime_paper(2), 10 ** 9, -SIXTY), ([1], ("turned", 1, 1)))
        self.assertEqual(roots(prime_paper(2), 5, 0), ([0], ("nought",)))
        self.assertEqual(roots(prime_paper(7), 1, 10), ([3], ("turned", 3, 1)))
        self.assertEqual(roots(prime_paper(7), 2, 2), ([3, 4], ("turned", 3, 6)))
        self.assertEqual(roots(prime_paper(7), 2, 3), ([], ("none", 3, 6)))
        self.assertEqual(roots(prime_paper(7), 5, 3), ([5], ("turned", 5, 1)))
        self.assertEqual(roots(prime_paper(7), 9, 14), ([0], ("nought",)))
        self.assertEqual(roots(prime_paper(7), 6, 2), ([], ("none", 1, 2)))

    def test_great_primes(self):
        with soon(20):
            for p in GREAT_PRIMES:
                paper = prime_paper(p)
                ks = [1, 2, 3, 4, 6, 7, 8, 9, 12, 64, 81, 128, 221, 256, 360, 400, 10 ** 9, 10 ** 9 - 1, 999999937]
                for k in [k for k in ks if math.gcd(k, p - 1) <= 400]:
                    for x in (1, 2, -2, paper[1], SIXTY):
                        self.assertIn(x % p, self.look(paper, k, pow(x, k, p)))
                        self.look(paper, k, pow(x, k, p) * paper[1])
                        self.look(paper, k, pow(x, k, p) - p * 10 ** 50)

    def test_great_numbers(self):
        with soon():
            for p in (2, 3, 7, 10007) + GREAT_PRIMES:
                for a in GREAT + (0, p, -p, p * 10 ** 50):
                    for k in (1, 2, 3, 5, 6, 30, 10 ** 9):
                        if math.gcd(k, p - 1) <= 400:
                            self.look(prime_paper(p), k, a)

    def test_a_high_power_of_a_prime_in_both(self):
        # 3 ** 4 divides 163 - 1 just so often, 2 ** 26 divides 469762049 - 1.
        for p, k in ((163, 81), (163, 243), (163, 9), (469762049, 256), (469762049, 128 * 3), (65537, 256)):
            paper = prime_paper(p)
            for x in (1, 2, 5, paper[1], p - 2):
                self.assertIn(x, self.look(paper, k, pow(x, k, p)))

    def test_order_without_common_divisor(self):
        for p in GREAT_PRIMES:
            for k in (1, 5, 11, 999999929, 10 ** 9 - 1):
                if math.gcd(k, p - 1) == 1:
                    found, shown = roots(prime_paper(p), k, SIXTY)
                    self.assertEqual((len(found), shown), (1, ("turned", found[0], 1)))

    def test_none_ahead_of_too_many(self):
        for p in GREAT_PRIMES:
            paper = prime_paper(p)
            for k in (p - 1, 2 * (p - 1), (p - 1) // 2):
                e = (p - 1) // math.gcd(k, p - 1)
                self.assertEqual(roots(paper, k, paper[1]), ([], ("none", e, pow(paper[1], e, p))))
                self.assertEqual(roots(paper, k, p * 7), ([0], ("nought",)))
        self.assertEqual(roots(prime_paper(409), 408, 2), ([], ("none", 1, 2)))

    def test_four_hundred_and_more(self):
        self.assertEqual(roots(prime_paper(401), 400, 1)[0], list(range(1, 401)))
        self.assertEqual(len(self.look(prime_paper(401), 800, 1)), 400)
        with soon():
            self.assertEqual(len(self.look(prime_paper(1201), 400, 1)), 400)
            for p, k, many in ((10427, 401, 401), (409, 408, 408), (419, 418, 418), (7237, 402, 402),
                               (999999937, 999999936, 999999936), (999999937, 576, 576),
                               (999999929, 124999991 * 3, 124999991)):
                self.assertEqual(math.gcd(k, p - 1), many)
                for a in (1, 1 + p, pow(SIXTY, k, p)):
                    with self.assertRaises(TooMany) as caught:
                        roots(prime_paper(p), k, a)
                    self.assertEqual(caught.exception.many, many)

    def test_another_full_number(self):
        for paper in other_papers(61):
            for k in (1, 2, 4, 7, 60):
                for a in (1, 16, 20, 60):
                    self.assertTrue(is_one_of(roots(paper, k, a), told_roots(61, k, a)))

    def test_the_asker_owns_it(self):
        paper = prime_paper(7)
        for a in (0, 2, 3):
            roots(paper, 2, a)[0].append(9)
        self.assertEqual([roots(paper, 2, a)[0] for a in (0, 2, 3)], [[0], [3, 4], []])


if __name__ == "__main__":
    unittest.main()
