"""Points 34 and 35: sums of two squares, of a prime and of a number."""

import copy
import unittest

from rootprime.errors import TooMany
from rootprime.morechecks import shows_squares
from rootprime.primepapers import parting_paper, prime_paper
from rootprime.twosquares import all_squares, two_squares
from tests.helper import (
    GREAT_PRIMES, JUST_MOST, PAPERS_ABOVE, SMALL_PRIMES, TOO_MANY, factors, is_plain, is_prime, number_of,
    other_papers, paper_above, parts_of, soon, squares_by_hand, squares_by_product, told_squares,
)


class TwoSquares(unittest.TestCase):

    def test_two(self):
        self.assertEqual(two_squares(prime_paper(2)), (1, 1))

    def test_small_primes(self):
        for p in [p for p in range(2, 3000) if is_prime(p)]:
            pairs = squares_by_hand(p)
            told = two_squares(prime_paper(p))
            self.assertEqual(len(pairs), 0 if p % 4 == 3 else 1)
            self.assertEqual(told, pairs[0] if pairs else None, p)
            self.assertIs(type(told), tuple if pairs else type(None))
            self.assertTrue(is_plain(told))

    def test_none_of_the_rest_three(self):
        for p in SMALL_PRIMES:
            self.assertIs(two_squares(prime_paper(p)) is None, p % 4 == 3)

    def test_great_primes(self):
        with soon():
            seen = []
            for p in GREAT_PRIMES + tuple(p for p in range(10 ** 9 - 300, 10 ** 9) if is_prime(p)):
                told = two_squares(prime_paper(p))
                seen.append(told is None)
                if p % 4 == 3:
                    self.assertIsNone(told)
                else:
                    x, y = told
                    self.assertTrue(1 <= x <= y and x * x + y * y == p, (p, told))
        self.assertEqual(set(seen), {True, False})

    def test_other_full_numbers(self):
        for p in (5, 13, 17, 29, 37, 41, 97):
            for paper in other_papers(p):
                self.assertEqual(two_squares(paper), squares_by_hand(p)[0])

    def test_primes_above(self):
        for paper in PAPERS_ABOVE:
            told = two_squares(paper)
            self.assertIs(told is None, paper[0] % 4 == 3)
            self.assertTrue(told is None or 1 <= told[0] <= told[1] and told[0] ** 2 + told[1] ** 2 == paper[0])


class AllSquares(unittest.TestCase):

    def look(self, parting, pairs):
        """They are told, a new list each time, and the reader lets them by."""
        parts = parts_of(parting)
        told = all_squares(parts)
        self.assertEqual(told, (pairs, ("all", len(pairs))), parting)
        self.assertTrue(type(told) is tuple and type(told[0]) is list and is_plain(told[0]))
        self.assertTrue(all(type(pair) is tuple for pair in told[0]))
        self.assertIs(shows_squares(number_of(parting), parts, told), True)

    def test_small_numbers(self):
        for n in range(1, 3000):
            told = all_squares(parting_paper(n))
            self.assertEqual(told, told_squares(n), n)
            self.assertIs(shows_squares(n, parting_paper(n), told), True)

    def test_one_and_two(self):
        self.assertEqual(all_squares(()), ([(0, 1)], ("all", 1)))
        self.assertEqual(all_squares(parting_paper(2)), ([(1, 1)], ("all", 1)))

    def test_powers_of_one_prime(self):
        for q in (2, 3, 5, 7, 13, 31, 101):
            for many in range(1, 8):
                if q % 4 == 3 and many % 2:
                    self.assertEqual(all_squares(parts_of(((q, many),))), ([], ("three", q)))
                else:
                    pairs = squares_by_product(((q, many),))
                    self.assertEqual(len(pairs), many // 2 + 1 if q % 4 == 1 else 1)
                    self.look(((q, many),), pairs)

    def test_pairs_with_nought_and_pairs_of_the_same(self):
        for n in range(1, 120):
            self.assertEqual([pair for pair in all_squares(parting_paper(n * n))[0] if pair[0] == 0], [(0, n)])
            alike = [pair for pair in all_squares(parting_paper(2 * n * n))[0] if pair[0] == pair[1]]
            self.assertEqual(alike, [(n, n)])
        for n in (5, 10, 13, 65, 1105):
            self.assertTrue(all(0 < x < y for x, y in all_squares(parting_paper(n))[0]))

    def test_how_many(self):
        # f odd where each prime with the rest 1 stands an even number of times, else even.
        for parting, many in (((), 1), (((5, 2),), 2), (((5, 1),), 1), (((5, 3),), 2), (((5, 2), (13, 2)), 5),
                              (((5, 1), (13, 1)), 2), (((2, 1), (5, 2)), 2), (((3, 2), (5, 4), (13, 2)), 8),
                              (((3, 4), (7, 2)), 1), (((5, 1), (13, 1), (17, 1), (29, 1), (37, 1), (41, 1)), 32)):
            self.assertEqual(all_squares(parts_of(parting))[1], ("all", many))
            self.look(parting, squares_by_product(parting))

    def test_the_least_three(self):
        for parting, q in ((((3, 1), (7, 1)), 3), (((3, 2), (7, 1), (11, 3)), 7), (((7, 3), (11, 1)), 7),
                           (((3, 4), (7, 2), (11, 1), (19, 1)), 11), (((2, 5), (5, 7), (999999607, 1)), 999999607),
                           (((3, 1), (5, 1), (7, 2)), 3), (((3, 37),), 3)):
            self.assertTrue(q % 4 == 3 and number_of(parting) <= 10 ** 18)
            told = all_squares(parts_of(parting))
            self.assertEqual(told, ([], ("three", q)))
            self.assertIs(shows_squares(number_of(parting), parts_of(parting), told), True)

    def test_threes_an_even_number_of_times(self):
        for parting in (((3, 2),), ((3, 2), (5, 1)), ((3, 4), (7, 2)), ((2, 1), (3, 2), (7, 2), (13, 1)), ((3, 36),)):
            self.look(parting, squares_by_product(parting))

    def test_great_numbers(self):
        with soon():
            for parting in (((2, 18), (5, 18)), ((2, 59),), ((999999937, 2),), ((999999929, 1), (999999937, 1)),
                            ((999999937, 1),), ((3, 2), (5, 3), (7, 4), (13, 2), (999999929, 1)),
                            ((5, 1), (13, 1), (17, 1), (29, 1), (37, 1), (41, 1), (53, 1), (61, 1), (73, 1)),
                            JUST_MOST, ((2, 3),) + JUST_MOST):
                self.assertLessEqual(number_of(parting), 10 ** 18)
                self.look(parting, squares_by_product(parting))
            # A prime above 10 ** 9 in a number below 10 ** 18.
            parting = ((9901, 1), (999999000001, 1))
            papers = parts_of(parting[:1]) + ((paper_above(999999000001, factors(999999000000)), 1),)
            pairs = squares_by_product(parting)
            self.assertEqual(all_squares(papers), (pairs, ("all", 2)))

    def test_four_hundred_and_more(self):
        with soon():
            self.assertEqual(len(all_squares(parts_of(JUST_MOST))[0]), 400)
            for parting, many in ((TOO_MANY, 405), (((2, 2),) + TOO_MANY, 405), (((3, 2),) + TOO_MANY, 405),
                                  (((5, 2), (13, 2), (17, 2), (29, 2), (37, 1), (41, 1), (53, 1)), 324),
                                  (((5, 2),) + tuple((q, 1) for q in (13, 17, 29, 37, 41, 53, 61, 73)), 384),
                                  (((5, 4), (13, 2), (17, 1), (29, 1), (37, 1), (41, 1), (53, 1), (61, 1)), 480)):
                self.assertLessEqual(number_of(parting), 10 ** 18)
                if many <= 400:
                    self.assertEqual(len(all_squares(parts_of(parting))[0]), many)
                    continue
                with self.assertRaises(TooMany) as caught:
                    all_squares(parts_of(parting))
                self.assertEqual(caught.exception.many, many)

    def test_a_three_goes_ahead_of_too_many(self):
        self.assertEqual(all_squares(parts_of(((3, 1),) + TOO_MANY)), ([], ("three", 3)))
        self.assertEqual(all_squares(parts_of(TOO_MANY + ((43, 1),))), ([], ("three", 43)))

    def test_other_full_numbers(self):
        for paper in other_papers(13):
            self.assertEqual(all_squares(((prime_paper(5), 2), (paper, 1))), told_squares(325))

    def test_new_each_time_and_nothing_is_changed(self):
        parts = parting_paper(325)
        before = copy.deepcopy(parts)
        told = all_squares(parts)
        right = copy.deepcopy(told)
        told[0].append((0, 0))
        del told[0][0]
        self.assertEqual(all_squares(parts), right)
        none = all_squares(parting_paper(3))
        none[0].append((1, 1))
        self.assertEqual(all_squares(parting_paper(3)), ([], ("three", 3)))
        one = all_squares(())
        one[0].append((1, 1))
        self.assertEqual(all_squares(()), ([(0, 1)], ("all", 1)))
        self.assertEqual(parts, before)


if __name__ == "__main__":
    unittest.main()
