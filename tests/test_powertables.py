"""Point 37: tables of powers."""

import copy
import unittest

from rootprime.errors import Nought, TooMany
from rootprime.orders import of_order
from rootprime.powertables import places_of, powers_of
from rootprime.primepapers import prime_paper
from tests.helper import GREAT, GREAT_PRIMES, SMALL_PRIMES, is_plain, is_prime, order_by_hand, other_papers, soon


class PowerTables(unittest.TestCase):

    def look(self, paper, b, e):
        """Both are told, by the point's own words."""
        p = paper[0]
        right = [pow(b, x, p) for x in range(e)]
        told, places = powers_of(paper, b), places_of(paper, b)
        self.assertEqual(told, right, (p, b))
        self.assertTrue(type(told) is list and is_plain(told))
        self.assertEqual(places, {number: place for place, number in enumerate(right)})
        self.assertTrue(type(places) is dict and is_plain(list(places)) and is_plain(list(places.values())))
        self.assertEqual(len(places), e)

    def test_small_primes(self):
        for p in SMALL_PRIMES:
            paper = prime_paper(p)
            for b in range(-p - 1, 2 * p + 2):
                if b % p:
                    self.look(paper, b, order_by_hand(p, b))

    def test_two(self):
        self.look(prime_paper(2), 1, 1)
        self.look(prime_paper(2), -SMALL_PRIMES[5], 1)

    def test_orders_one_two_and_all(self):
        for p in (3, 7, 101, 401):
            paper = prime_paper(p)
            self.look(paper, 1, 1)
            self.look(paper, p + 1, 1)
            self.look(paper, -1, 2)
            self.look(paper, paper[1], p - 1)
            self.look(paper, paper[1] - p, p - 1)

    def test_great_numbers(self):
        for p in (2, 3, 7, 401):
            for b in GREAT:
                if b % p:
                    self.look(prime_paper(p), b, order_by_hand(p, b))

    def test_great_primes(self):
        with soon():
            for p in GREAT_PRIMES:
                paper = prime_paper(p)
                for d in [d for d in range(1, 401) if (p - 1) % d == 0]:
                    self.look(paper, of_order(paper, d), d)
                    self.look(paper, of_order(paper, d) - 7 * p, d)

    def test_nought(self):
        for p in (2, 3, 409, 999999937):
            for b in (0, p, -p, p * 10 ** 50):
                for table in (powers_of, places_of):
                    with self.assertRaises(Nought):
                        table(prime_paper(p), b)

    def test_four_hundred_and_more(self):
        self.look(prime_paper(401), 3, 400)
        with soon():
            cases = [(409, 408), (999999937, 999999936), (998244353, 512)]
            # Just one more than are told.
            cases.append((next(p for p in range(402, 10 ** 5, 401) if is_prime(p)), 401))
            for p, e in cases:
                for table in (powers_of, places_of):
                    with self.assertRaises(TooMany) as caught:
                        table(prime_paper(p), of_order(prime_paper(p), e))
                    self.assertEqual(caught.exception.many, e)

    def test_other_full_numbers(self):
        for paper in other_papers(13):
            self.look(paper, 5, 4)

    def test_new_each_time_and_nothing_is_changed(self):
        paper = prime_paper(7)
        before = copy.deepcopy(paper)
        told, places = powers_of(paper, 3), places_of(paper, 3)
        told.append(0)
        del told[0]
        places[1] = 5
        del places[3]
        self.look(paper, 3, 6)
        self.assertEqual(paper, before)


if __name__ == "__main__":
    unittest.main()
