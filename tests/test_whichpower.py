"""Points 26 and 27: which power of another number a number is; the steps by which it is found, with 38 and 39."""

import unittest

from rootprime.errors import Nought, TooFar
from rootprime.kept import Kept
from rootprime.orders import order
from rootprime.primepapers import prime_paper
from rootprime.whichpower import which
from tests.helper import (
    GREAT, GREAT_PRIMES, SIXTY, SMALL_PRIMES, KeptByHand, factors, is_one_of, other_papers, soon, told_which,
)

# 999983 is the greatest prime below 10 ** 6, 1000003 the least above it: each divides p - 1.
BELOW = 12 * 999983 + 1
ABOVE = 36 * 1000003 + 1
GREAT_BELOW = 986 * 999983 + 1


class Which(unittest.TestCase):

    def look(self, paper, b, a, kept=None):
        """What is told of a great prime where a is a power of b: its digits, and that it is so."""
        p = paper[0]
        x, shown = told = which(paper, b, a, kept)
        e = order(paper, b)[0]
        self.assertTrue(type(x) is int and 0 <= x < e and (pow(b, x, p) - a) % p == 0)
        rows = tuple((q, tuple(x // q ** n % q for n in range(many))) for q, many in factors(e))
        self.assertTrue(is_one_of(told, [(x, ("is", e, rows))]))
        return x

    def test_small_primes(self):
        for p in SMALL_PRIMES[:14]:
            paper = prime_paper(p)
            for b in range(1, p):
                for a in range(1, p):
                    right = told_which(p, b, a)
                    self.assertTrue(is_one_of(which(paper, b, a), [right]), (p, b, a))
                    self.assertTrue(is_one_of(which(paper, b - p, a + p * 10 ** 50, Kept(1)), [right]), (p, b, a))

    def test_written_out(self):
        self.assertEqual(which(prime_paper(2), 1, 1), (0, ("is", 1, ())))
        self.assertEqual(which(prime_paper(2), -SIXTY, SIXTY), (0, ("is", 1, ())))
        self.assertEqual(which(prime_paper(7), 3, 1), (0, ("is", 6, ((2, (0,)), (3, (0,))))))
        self.assertEqual(which(prime_paper(7), 3, 5), (5, ("is", 6, ((2, (1,)), (3, (2,))))))
        self.assertEqual(which(prime_paper(7), 2, 4), (2, ("is", 3, ((3, (2,)),))))
        self.assertEqual(which(prime_paper(7), 2, 3), (None, ("none", 3, 6)))
        self.assertEqual(which(prime_paper(7), 1, 1), (0, ("is", 1, ())))
        self.assertEqual(which(prime_paper(7), 8, 3), (None, ("none", 1, 3)))
        self.assertEqual(which(prime_paper(17), 3, 11), (7, ("is", 16, ((2, (1, 1, 1, 0)),))))

    def test_great_primes(self):
        with soon(20):
            for p in GREAT_PRIMES[2:] + (BELOW, GREAT_BELOW, 65537, 163):
                paper = prime_paper(p)
                for b in (paper[1], paper[1] ** 2, paper[1] ** 3 % p - p, 2, SIXTY, -SIXTY):
                    for x in (0, 1, 2, p // 3, p - 2, p // 2) + GREAT:
                        a = pow(b, x, p)
                        self.assertEqual(self.look(paper, b, a), x % order(paper, b)[0])
                        self.look(paper, b, a - p * 10 ** 50)

    def test_a_prime_to_a_great_power(self):
        paper = prime_paper(469762049)
        self.assertEqual(len(which(paper, paper[1], 2)[1][2][0][1]), 26)
        self.look(paper, paper[1], 2)
        self.look(prime_paper(2 * 3 ** 16 + 1), 5, 7)
        self.look(prime_paper(65537), 3, 65536)

    def test_none(self):
        for p in SMALL_PRIMES[2:] + list(GREAT_PRIMES):
            paper = prime_paper(p)
            for b, a in ((1, 2), (1, paper[1]), (-1, paper[1]), (paper[1] ** 2, paper[1]), (paper[1] ** 2 - p, SIXTY)):
                e = order(paper, b)[0]
                rest = pow(a, e, p)
                if rest not in (0, 1):
                    self.assertTrue(is_one_of(which(paper, b, a), [(None, ("none", e, rest))]), (p, b, a))

    def test_nought(self):
        for p in (2, 3, 7, 999999937, 71850239, ABOVE):
            paper = prime_paper(p)
            for nought in (0, p, -p, p * 10 ** 50):
                for other in (1, paper[1], -1, nought):
                    for b, a in ((nought, other), (other, nought)):
                        with self.assertRaises(Nought):
                            which(paper, b, a)
                        with self.assertRaises(Nought):
                            which(paper, b, a, Kept(3))

    def test_none_ahead_of_too_far(self):
        for p, great in ((71850239, 35925119), (999999929, 124999991), (ABOVE, 1000003)):
            paper = prime_paper(p)
            b = paper[1] ** 2
            for a in (paper[1], paper[1] ** 3, paper[1] - p):
                e = (p - 1) // 2
                self.assertEqual(e % great, 0)
                self.assertEqual(which(paper, b, a), (None, ("none", e, p - 1)))
                with self.assertRaises(TooFar) as caught:
                    which(paper, b, a * paper[1])
                self.assertEqual(caught.exception.part, great)

    def test_just_below_and_above_the_bound(self):
        with soon():
            for p in (BELOW, GREAT_BELOW):
                paper = prime_paper(p)
                for x in (0, 1, 999982, 999983, p - 2, 123456789):
                    self.assertEqual(self.look(paper, paper[1], pow(paper[1], x, p)), x % (p - 1))
            for b_power in (1, 2, 36):
                paper = prime_paper(ABOVE)
                b = pow(paper[1], b_power, ABOVE)
                for a in (1, b, b * b):
                    with self.assertRaises(TooFar) as caught:
                        which(paper, b, a)
                    self.assertEqual(caught.exception.part, 1000003)

    def test_the_primes_of_the_order_alone(self):
        # A great prime of p - 1 that isn't one of b's order keeps nothing from being told.
        for p, e in ((71850239, 2), (999999929, 8), (ABOVE, 36)):
            paper = prime_paper(p)
            b = pow(paper[1], (p - 1) // e, p)
            for x in range(e):
                self.assertEqual(self.look(paper, b, pow(b, x, p)), x)

    def test_another_full_number(self):
        for paper in other_papers(61):
            for b, a in ((2, 3), (5, 4), (60, 1), (9, 27)):
                self.assertEqual(which(paper, b, a), told_which(61, b, a))


class Steps(unittest.TestCase):
    """Each step is counted as 27, 38 and 39 say it."""

    def ask(self, kept, by_hand, paper, b, a):
        alone = self.told(paper, b, a)
        self.assertEqual(self.told(paper, b, a, kept), alone)
        by_hand.ask(paper[0], b, a)
        self.assertTrue(is_one_of(kept.steps(), [by_hand.steps]), (paper[0], b, a))
        self.assertTrue(is_one_of(kept.tables(), [by_hand.tables]), (paper[0], b, a))

    def told(self, paper, b, a, *kept):
        """The answer, or the refusal's name and field."""
        try:
            return which(paper, b, a, *kept)
        except (Nought, TooFar) as refusal:
            return (refusal.__class__.__name__, getattr(refusal, "part", None))

    def test_small_primes(self):
        for most in (1, 2, 3, 64):
            kept, by_hand = Kept(most), KeptByHand(most)
            for p in SMALL_PRIMES[:10]:
                paper = prime_paper(p)
                for b in range(0, p + 1):
                    for a in range(0, p, 1 + p // 9):
                        self.ask(kept, by_hand, paper, b, a)

    def test_great_primes(self):
        with soon(20):
            for most in (1, 2, 8):
                kept, by_hand = Kept(most), KeptByHand(most)
                for p in (999999937, 998244353, 367567201, BELOW, 71850239, ABOVE, 163, 2):
                    paper = prime_paper(p)
                    for b in (paper[1], paper[1] ** 2, -1, 2):
                        for a in (1, paper[1], paper[1] ** 4, -1, 5, SIXTY):
                            self.ask(kept, by_hand, paper, b, a)

    def test_written_out(self):
        paper = prime_paper(7)
        kept = Kept(2)
        which(paper, 3, 1, kept)
        # Of 2 and of 3 there are two small steps each; 1 is the first great step, and a small one.
        self.assertEqual((kept.steps(), kept.tables()), (6, [(7, 2, 6), (7, 3, 2)]))
        which(paper, 3, 5, kept)
        # By 2 the digit is 1, a small step; by 3 it is 2, the second great step.
        self.assertEqual((kept.steps(), kept.tables()), (9, [(7, 2, 6), (7, 3, 2)]))
        which(paper, 2, 4, kept)
        # 2 has the order 3, and its w is 2 as well.
        self.assertEqual((kept.steps(), kept.tables()), (11, [(7, 2, 6), (7, 3, 2)]))
        which(paper, 6, 6, kept)
        self.assertEqual((kept.steps(), kept.tables()), (12, [(7, 3, 2), (7, 2, 6)]))
        which(prime_paper(5), 2, 4, kept)
        # Two small steps, and two digits with one great step each; the table used longest ago is gone.
        self.assertEqual((kept.steps(), kept.tables()), (16, [(7, 2, 6), (5, 2, 4)]))
        which(paper, 4, 2, kept)
        self.assertEqual((kept.steps(), kept.tables()), (20, [(5, 2, 4), (7, 3, 4)]))

    def test_most_great_steps(self):
        # For the digit q - 1 as many great steps are gone as there are at most.
        paper = prime_paper(BELOW)
        b = pow(paper[1], 12, BELOW)
        kept = Kept(1)
        which(paper, b, pow(b, -1, BELOW), kept)
        self.assertEqual(kept.steps(), 2000)
        which(paper, b, 1, kept)
        self.assertEqual(kept.steps(), 2001)
        which(paper, b, pow(b, 999, BELOW), kept)
        self.assertEqual(kept.steps(), 2002)
        which(paper, b, pow(b, 1000, BELOW), kept)
        self.assertEqual(kept.steps(), 2004)

    def test_what_counts_nothing(self):
        kept = Kept(2)
        paper = prime_paper(999999929)
        for b, a in ((paper[1], 5), (0, 1), (1, 0), (paper[1] ** 2, paper[1]), (1, 2), (1, 1)):
            self.told(paper, b, a, kept)
            self.assertEqual((kept.steps(), kept.tables()), (0, []))
        which(prime_paper(7), 3, 5, kept)
        before = (kept.steps(), kept.tables())
        for b, a in ((3, 7), (7, 3), (2, 3), (6, 3)):
            self.told(prime_paper(7), b, a, kept)
            self.assertEqual((kept.steps(), kept.tables()), before)

    def test_nothing_but_the_kept_is_kept(self):
        paper = prime_paper(163)
        for turn in range(3):
            kept = Kept(4)
            which(paper, 2, 3)
            which(paper, 2, 3, kept)
            self.assertEqual(kept.steps(), KeptByHand(4).ask(163, 2, 3).steps)


if __name__ == "__main__":
    unittest.main()
