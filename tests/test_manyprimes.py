"""Points 30 to 32: orders, roots and which power by several primes together; with a Kept 38 and 39."""

import copy
import itertools
import math
import unittest

from rootprime.errors import Nought, TooFar, TooMany
from rootprime.kept import Kept
from rootprime.manyprimes import order_of, roots_of, which_of
from rootprime.orders import order
from rootprime.primepapers import prime_paper
from rootprime.whichpower import which
from tests.helper import (
    GREAT, GREAT_PRIMES, SIXTY, KeptByHand, alike, is_one_of, order_by_hand, other_papers, papers_of, soon,
    told_roots_of, told_which_of,
)

SOME = [[2], [3], [7], [31], [2, 3], [2, 31], [5, 7], [13, 31], [2, 3, 5], [3, 7, 13], [2, 3, 5, 7], [2, 3, 5, 7, 11]]
# The order of a full number by the first has a greater prime than that by the second, which is the greater one.
FAR = (4000079, 2000039)
NEXT_FAR = (36 * 1000003 + 1, 1000003)


class OrderOf(unittest.TestCase):

    def test_small_primes(self):
        for primes in SOME:
            for a in range(-8, 40):
                if any(a % p == 0 for p in primes):
                    with self.assertRaises(Nought):
                        order_of(papers_of(primes), a)
                else:
                    right = order_by_hand(math.prod(primes), a)
                    self.assertTrue(is_one_of(order_of(papers_of(primes), a), [right]), (primes, a))

    def test_written_out(self):
        self.assertEqual(order_of(papers_of([2]), -SIXTY), 1)
        self.assertEqual(order_of(papers_of([5, 7]), 3), 12)
        self.assertEqual(order_of(papers_of([3, 5, 7, 11, 13]), -1), 2)
        self.assertEqual(order_of(papers_of([3, 5, 7, 11, 13]), 1), 1)

    def test_great_primes(self):
        primes = sorted(GREAT_PRIMES[:5])
        papers = papers_of(primes)
        with soon():
            for a in (1, -1, 2, 3, 5) + GREAT:
                each = [order(paper, a)[0] for paper in papers]
                self.assertEqual(order_of(papers, a), math.lcm(*each))
            for p in primes:
                for a in (p, -p, 3 * p, 0, p * 10 ** 50):
                    with self.assertRaises(Nought):
                        order_of(papers, a)


class RootsOf(unittest.TestCase):

    def test_small_primes(self):
        for primes in SOME:
            papers = papers_of(primes)
            for k in (1, 2, 3, 4, 5, 6, 12, 10 ** 9):
                for a in range(-2, 32, 1 if len(primes) < 4 else 3):
                    told = roots_of(papers, k, a)
                    self.assertTrue(is_one_of(told, told_roots_of(primes, k, a)), (primes, k, a))

    def test_the_first_place_without_a_root(self):
        for primes in SOME + [[3, 5, 7, 11, 13]]:
            for a in range(20):
                rights = told_roots_of(primes, 2, a)
                if rights and rights[0][1][0] == "none":
                    self.assertTrue(is_one_of(roots_of(papers_of(primes), 2, a), rights[:1]), (primes, a))
        self.assertEqual(roots_of(papers_of([3, 5, 7]), 2, 2), ([], ("none", 0, 1, 2)))
        self.assertEqual(roots_of(papers_of([2, 7, 5, 11]), 2, 2), ([], ("none", 2, 2, 4)))

    def test_written_out(self):
        self.assertEqual(roots_of(papers_of([2]), 3, 5), ([1], ("by", (("turned", 1, 1),))))
        self.assertEqual(roots_of(papers_of([2, 3]), 2, 0), ([0], ("by", (("nought",), ("nought",)))))
        self.assertEqual(roots_of(papers_of([3, 5]), 2, 4),
                         ([2, 7, 8, 13], ("by", (("turned", 1, 2), ("turned", 2, 4)))))
        self.assertEqual(roots_of(papers_of([3, 5]), 2, 9), ([3, 12], ("by", (("nought",), ("turned", 2, 4)))))
        self.assertEqual(roots_of(papers_of([3, 5]), 2, -SIXTY - 4), ([], ("none", 0, 1, 2)))

    def look(self, primes, k, a):
        """What is told of great primes: as many roots as there are, each right, so all."""
        found, shown = roots_of(papers_of(primes), k, a)
        self.assertEqual(shown[0], "by")
        self.assertEqual(len(found), math.prod(1 if a % p == 0 else math.gcd(k, p - 1) for p in primes))
        self.assertEqual(found, sorted(set(found)))
        self.assertTrue(found[0] >= 0 and found[-1] < math.prod(primes))
        self.assertTrue(all((pow(x, k, p) - a) % p == 0 for x in found for p in primes))
        for p, row in zip(primes, shown[1]):
            if a % p == 0:
                self.assertEqual(row, ("nought",))
            else:
                self.assertEqual(row[:2], ("turned", min(x % p for x in found)))
                self.assertEqual(len({pow(row[2], x, p) for x in range(math.gcd(k, p - 1))}), math.gcd(k, p - 1))
        return found

    def test_great_primes(self):
        primes = sorted(GREAT_PRIMES[:5])
        with soon():
            for k in (1, 2, 3, 5, 11, 10 ** 9 - 1):
                for x in (0, 1, 2, primes[0], primes[1] * primes[4], SIXTY, -SIXTY):
                    whole = math.prod(primes)
                    self.assertIn(x % whole, self.look(primes, k, pow(x, k, whole) - whole * 10 ** 14))
            self.assertEqual(len(self.look([2] + primes[:4], 4, 16)), 1 * 2 * 4 * 4 * 4)

    def test_four_hundred_and_more(self):
        with soon():
            self.assertEqual(len(self.look([11, 41], 40, 1)), 400)
            self.assertEqual(len(self.look([2, 11, 41], 40, 1)), 400)
            self.assertEqual(len(self.look([401], 400, 1)), 400)
            self.assertEqual(len(self.look([7, 401], 400, 0)), 1)
            self.assertEqual(len(self.look([401, 10427], 400, 10427)), 400)
            for primes, k, a, many in (
                ([10427], 401, 1, 401), ([2, 10427], 401, 1, 401), ([5, 10427], 401, 20855, 401),
                ([3, 401], 400, 1, 800),
                ([11, 41, 61], 120, 1, 10 * 40 * 60), ([3, 5, 7, 11, 13], 60, 1, 2 * 4 * 6 * 10 * 12),
                ([367567201, 998244353], 10 ** 9, 1, 800 * 512),
                ([999999929, 999999937], 999999928, 1, 999999928 * 8),
            ):
                with self.assertRaises(TooMany) as caught:
                    roots_of(papers_of(primes), k, a)
                self.assertEqual(caught.exception.many, many)

    def test_none_ahead_of_too_many(self):
        # 3 is no square by 7; by 10427 there are 802 roots of order 802 of 1.
        a = next(a for a in range(1, 8 * 10427, 10427) if a % 7 == 3)
        for primes, right in (([7, 10427], ("none", 0, 3, 6)), ([2, 7, 10427], ("none", 1, 3, 6))):
            self.assertEqual(roots_of(papers_of(primes), 802, a), ([], right))
        # By 401 there are 400 of order 400 of 1, by 419 418, by the last prime none.
        a = next(a for a in range(1, 401 * 419 * 422, 401 * 419) if pow(a, 1, 421) == 2)
        told = roots_of(papers_of([401, 419, 421]), 400 * 418 * 420, a)
        self.assertEqual(told, ([], ("none", 2, 1, 2)))

    def test_other_full_numbers(self):
        for one, other in itertools.product(other_papers(7), other_papers(13)):
            for a in range(8):
                self.assertTrue(is_one_of(roots_of([one, other], 3, a), told_roots_of([7, 13], 3, a)))

    def test_the_asker_owns_it(self):
        papers = papers_of([3, 5])
        before = copy.deepcopy(papers)
        for a in (4, 2, 0):
            roots_of(papers, 2, a)[0].append(99)
        self.assertEqual([roots_of(papers, 2, a)[0] for a in (4, 2, 0)], [[2, 7, 8, 13], [], [0]])
        self.assertEqual(papers, before)


class WhichOf(unittest.TestCase):

    def test_small_primes(self):
        for primes in SOME:
            papers = papers_of(primes)
            for b in range(-3, 18):
                for a in range(-2, 32, 1 if len(primes) < 3 else 3):
                    rights = told_which_of(primes, b, a)
                    if not rights:
                        with self.assertRaises(Nought):
                            which_of(papers, b, a)
                    else:
                        # The first one: none ahead of apart, and of each the first place or places.
                        self.assertTrue(is_one_of(which_of(papers, b, a), rights[:1]), (primes, b, a))
                        self.assertTrue(is_one_of(which_of(papers, b, a, Kept(2)), rights[:1]), (primes, b, a))

    def test_written_out(self):
        self.assertEqual(which_of(papers_of([2]), 3, -SIXTY), (0, ("by", ((1, 0),))))
        self.assertEqual(which_of(papers_of([5, 7]), 3, 27), (3, ("by", ((4, 3), (6, 3)))))
        self.assertEqual(which_of(papers_of([5, 7]), 3, 3 ** 11), (11, ("by", ((4, 3), (6, 5)))))
        self.assertEqual(which_of(papers_of([5, 7]), 3, 6), (None, ("apart", 0, 1, (4, 0), (6, 3))))
        self.assertEqual(which_of(papers_of([5, 7]), 2, 3), (None, ("none", 1, 3, 6)))
        self.assertEqual(which_of(papers_of([5, 7]), 4, 3), (None, ("none", 0, 2, 4)))

    def test_nought(self):
        for primes in SOME + [sorted(GREAT_PRIMES[:5]), [FAR[0], NEXT_FAR[0]]]:
            for p in primes:
                for nought in (0, p, -p, p * 10 ** 50):
                    for other in (1, -1, SIXTY, nought):
                        for b, a in ((nought, other), (other, nought)):
                            with self.assertRaises(Nought):
                                which_of(papers_of(primes), b, a)

    def test_none_ahead_of_too_far(self):
        # -1 is no power of 2 by 7; behind 7 there is a prime by which b's order has a great prime.
        for primes, bs, place in (([7, 71850239], [2, 7], 0), ([2, 7, 71850239], [1, 2, 7], 1)):
            told = which_of(papers_of(primes), alike(primes, bs), -1)
            self.assertEqual(told, (None, ("none", place, 3, 6)))
        # Such a one stands ahead of the prime without a power, too, and that one's own order is such.
        for primes, place in (([4000079, 36000109], 1), ([4000079, 36000109, 71850239], 1), ([36000109, 71850239], 1)):
            fulls = [prime_paper(p)[1] for p in primes]
            b = alike(primes, [full if at != place else full ** 2 for at, full in enumerate(fulls)])
            a = alike(primes, fulls)
            e = (primes[place] - 1) // 2
            self.assertEqual(which_of(papers_of(primes), b, a), (None, ("none", place, e, primes[place] - 1)))

    def test_too_far_tells_the_greatest_of_all(self):
        self.assertGreater(FAR[1], NEXT_FAR[1])
        for primes, part in (([FAR[0]], FAR[1]), ([NEXT_FAR[0]], NEXT_FAR[1]), ([FAR[0], NEXT_FAR[0]], FAR[1]),
                             ([2, 3, FAR[0], NEXT_FAR[0], 998244353], FAR[1]), ([7, 71850239, 999999929], 124999991),
                             ([71850239, 998244353, 999999937], 35925119)):
            b = alike(primes, [prime_paper(p)[1] for p in primes])
            for a in (1, b, b ** 2):
                for kept in (None, Kept(3)):
                    with self.assertRaises(TooFar) as caught:
                        which_of(papers_of(primes), b, a, kept)
                    self.assertEqual(caught.exception.part, part)
        # Of b's order by each alone it is asked.
        self.assertEqual(which_of(papers_of([FAR[0], NEXT_FAR[0]]), -1, -1), (1, ("by", ((2, 1), (2, 1)))))

    def test_too_far_ahead_of_apart(self):
        primes = [5, 7, 71850239]
        b = alike(primes, [3, 3, prime_paper(71850239)[1]])
        with self.assertRaises(TooFar):
            which_of(papers_of(primes), b, alike(primes, [1, 6, 1]))

    def test_the_first_two_that_are_apart(self):
        primes = [3, 5, 7, 11, 13]
        fulls = [prime_paper(p)[1] for p in primes]
        b = alike(primes, fulls)
        for ys in itertools.product((0, 1), (1, 2), (0, 3), (0, 5), (0, 8)):
            places = [(p - 1, y) for p, y in zip(primes, ys)]
            a = alike(primes, [full ** y for full, y in zip(fulls, ys)])
            self.assertTrue(is_one_of(which_of(papers_of(primes), b, a), told_which_of(primes, b, a)[:1]), places)

    def test_great_primes(self):
        primes = sorted(GREAT_PRIMES[2:7])
        papers = papers_of(primes)
        fulls = [prime_paper(p)[1] for p in primes]
        with soon():
            for b in (alike(primes, fulls), alike(primes, [full ** 2 for full in fulls]), 2, 17, SIXTY - 2):
                t = order_of(papers, b)
                for x in (0, 1, 2, 10 ** 9, 10 ** 18 + 7, SIXTY):
                    told = which_of(papers, b, pow(b, x, math.prod(primes)))
                    places = tuple((order(paper, b)[0], x % order(paper, b)[0]) for paper in papers)
                    self.assertTrue(is_one_of(told, [(x % t, ("by", places))]))
                    self.assertEqual(which_of(papers, b - 2 * math.prod(primes), pow(b, x, math.prod(primes))), told)


class StepsOfMany(unittest.TestCase):

    def ask(self, kept, by_hand, primes, b, a):
        """By all primes, rising, but where it is refused, or told with none."""
        told = rest = None
        try:
            told, rest = which_of(papers_of(primes), b, a, kept)
        except (Nought, TooFar):
            pass
        if rest is not None and rest[0] != "none":
            self.assertEqual((told, rest), which_of(papers_of(primes), b, a))
            for p in primes:
                by_hand.ask(p, b, a)
        self.assertTrue(is_one_of(kept.steps(), [by_hand.steps]), (primes, b, a))
        self.assertTrue(is_one_of(kept.tables(), [by_hand.tables]), (primes, b, a))
        return rest

    def test_steps_and_tables(self):
        for most in (1, 2, 5, 64):
            kept, by_hand = Kept(most), KeptByHand(most)
            shown = []
            for primes in SOME + [[3, 7], [998244353, 999999937], [7, 71850239], [31, 163, 999999937]]:
                for b in (3, 5, 2, -1, 17):
                    for a in (1, 2, 9, 6, 27, -1, 25):
                        shown.append(self.ask(kept, by_hand, primes, b, a))
            kinds = {row and row[0] for row in shown}
            self.assertEqual(kinds, {None, "none", "apart", "by"})

    def test_apart_counts_by_all(self):
        kept = Kept(8)
        self.assertEqual(which_of(papers_of([5, 7, 11]), 3, 6, kept)[1][:3], ("none", 2, 5))
        self.assertEqual((kept.steps(), kept.tables()), (0, []))
        self.assertEqual(which_of(papers_of([5, 7, 13]), 3, 27, kept)[0], 3)
        before = kept.steps()
        # By 5 and 7 it is apart; by 13, behind them, it is sought too.
        self.assertEqual(which_of(papers_of([5, 7, 13]), 3, 27 + 35 * 13 * 2 - 7 * 13 * 3, kept)[1][0], "apart")
        self.assertEqual(kept.tables(), [(5, 2, 4), (7, 2, 6), (7, 3, 2), (13, 3, 3)])
        self.assertGreater(kept.steps(), before)

    def test_with_what_which_keeps(self):
        kept = Kept(8)
        which(prime_paper(7), 3, 6, kept)
        self.assertEqual(kept.steps(), 2 + 2 + 1 + 1)
        which_of(papers_of([5, 7]), 3, 27, kept)
        # By 5 two small steps are laid and two great ones gone, by 7 two great ones.
        self.assertEqual(kept.steps(), 6 + 4 + 2)
        self.assertEqual(kept.tables(), [(5, 2, 4), (7, 2, 6), (7, 3, 2)])


if __name__ == "__main__":
    unittest.main()
