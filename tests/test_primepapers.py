"""Points 13, 14 and 16: the papers that are told."""

import unittest

from rootprime.errors import NoNumber, NoPrime, TooFar
from rootprime.parting import least_divisor, parted
from rootprime.primepapers import parting_paper, prime_paper
from tests.helper import SIXTY, is_plain, is_prime, is_right_parting_paper, is_right_prime_paper, order_by_hand, soon

BOUND = 10 ** 9
TWO = (2, 1, ())
THREE = (3, 2, ((TWO, 1),))
SEVEN = (7, 3, ((TWO, 1), (THREE, 1)))
# The least full number of 831143041 is 151.
GREAT_PRIMES = (999999937, 999999929, 998244353, 831143041, 71850239, 536870909, 31607, 10007)


def least_full_by_hand(p):
    """The least number whose order is p - 1, by powers to all numbers that p - 1 is a multiple of."""
    parts = [(p - 1) // prime for prime, _ in parted(p - 1)]
    return min(full for full in range(1, min(p, 1000)) if all(pow(full, e, p) != 1 for e in parts))


class PrimePaper(unittest.TestCase):

    def test_written_out(self):
        self.assertEqual(prime_paper(2), TWO)
        self.assertEqual(prime_paper(3), THREE)
        self.assertEqual(prime_paper(5), (5, 2, ((TWO, 2),)))
        self.assertEqual(prime_paper(7), SEVEN)
        self.assertEqual(prime_paper(43), (43, 3, ((TWO, 1), (THREE, 1), (SEVEN, 1))))

    def test_all_primes_to_some_hundreds(self):
        for p in [n for n in range(2, 600) if is_prime(n)]:
            paper = prime_paper(p)
            self.assertTrue(is_right_prime_paper(paper), p)
            self.assertTrue(is_plain(paper))
            self.assertEqual(paper[0], p)
            self.assertEqual(paper[1], min(a for a in range(1, p) if order_by_hand(p, a) == p - 1), p)
            self.assert_papers_within(paper)

    def assert_papers_within(self, paper):
        self.assertEqual([(row[0][0], row[1]) for row in paper[2]], parted(paper[0] - 1))
        for within, _ in paper[2]:
            self.assertEqual(within, prime_paper(within[0]))
            self.assertEqual(within[1], least_full_by_hand(within[0]))
            self.assert_papers_within(within)

    def test_great_primes(self):
        with soon():
            for p in GREAT_PRIMES:
                paper = prime_paper(p)
                self.assertTrue(is_right_prime_paper(paper), p)
                self.assertEqual(paper[0], p)
                self.assertEqual(paper[1], least_full_by_hand(p))
                self.assert_papers_within(paper)
        self.assertEqual(prime_paper(831143041)[1], 151)

    def test_no_number(self):
        for n in (1, 0, -1, -7, -SIXTY):
            with self.assertRaises(NoNumber):
                prime_paper(n)

    def test_too_far_prime_or_not(self):
        for n in (BOUND + 1, BOUND + 7, 10 ** 12, 2 ** 61 - 1, SIXTY):
            with self.assertRaises(TooFar) as told:
                prime_paper(n)
            self.assertEqual(told.exception.part, n)

    def test_no_prime(self):
        numbers = [n for n in range(2, 600) if not is_prime(n)]
        for n in numbers + [561, 31607 ** 2, 31601 * 31607, 3 * 333333313, BOUND, BOUND - 1]:
            with self.assertRaises(NoPrime) as told:
                prime_paper(n)
            self.assertEqual(told.exception.divisor, least_divisor(n), n)
        self.assertIs(type(told.exception.divisor), int)


class PartingPaper(unittest.TestCase):

    def look(self, n):
        told = parting_paper(n)
        self.assertTrue(is_right_parting_paper(n, told), n)
        self.assertTrue(is_plain(told))
        self.assertEqual(told, tuple((prime_paper(prime), many) for prime, many in parted(n)))

    def test_small_ones(self):
        for n in range(1, 400):
            self.look(n)

    def test_written_out(self):
        self.assertEqual(parting_paper(1), ())
        self.assertEqual(parting_paper(2), ((TWO, 1),))
        self.assertEqual(parting_paper(8), ((TWO, 3),))
        self.assertEqual(parting_paper(63), ((THREE, 2), (SEVEN, 1)))

    def test_great_ones(self):
        with soon():
            for n in (999999937, 2 ** 29, 3 ** 18, 31607 ** 2, 31601 * 31607, 735134400, 2 * 499999993, BOUND - 1,
                      BOUND):
                self.look(n)

    def test_no_number(self):
        for n in (0, -1, -6, -SIXTY):
            with self.assertRaises(NoNumber):
                parting_paper(n)

    def test_too_far(self):
        for n in (BOUND + 1, BOUND + 7, SIXTY):
            with self.assertRaises(TooFar) as told:
                parting_paper(n)
            self.assertEqual(told.exception.part, n)


if __name__ == "__main__":
    unittest.main()
