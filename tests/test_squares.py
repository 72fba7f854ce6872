"""Points 21 and 22: square roots, and the walk to one."""

import unittest

from rootprime.errors import NoRoot, Nought
from rootprime.primepapers import prime_paper
from rootprime.squares import no_square, root_walk, square_roots
from tests.helper import GREAT, GREAT_PRIMES, SIXTY, SMALL_PRIMES, is_plain, other_papers, soon


def walk_by_hand(p, full, a):
    """Point 22, word by word."""
    odd, s = p - 1, 0
    while odd % 2 == 0:
        odd, s = odd // 2, s + 1
    z = pow(full, odd, p)
    r, t = pow(a, (odd + 1) // 2, p), pow(a, odd, p)
    walk = []
    while True:
        m = 0
        while pow(t, 2 ** m, p) != 1:
            m += 1
        walk.append((r, t, m))
        if m == 0:
            return walk
        w = pow(z, 2 ** (s - m - 1), p)
        r, t = r * w % p, t * w * w % p


class SquareRoots(unittest.TestCase):

    def test_all_of_small_primes(self):
        for p in SMALL_PRIMES:
            paper = prime_paper(p)
            for a in range(-p - 2, 2 * p + 3):
                told = square_roots(paper, a)
                self.assertEqual(told, [x for x in range(p) if (x * x - a) % p == 0], (p, a))
                self.assertIs(type(told), list)
                self.assertTrue(is_plain(told))

    def test_edges(self):
        for a, right in ((0, [0]), (1, [1]), (2, [0]), (-1, [1]), (-2, [0]), (SIXTY, [1]), (-SIXTY, [1])):
            self.assertEqual(square_roots(prime_paper(2), a), right)
        for a, right in ((0, [0]), (1, [1, 2]), (2, []), (3, [0]), (-1, []), (-2, [1, 2]), (SIXTY, [0])):
            self.assertEqual(square_roots(prime_paper(3), a), right)

    def test_great_primes(self):
        with soon():
            for p in GREAT_PRIMES:
                paper = prime_paper(p)
                for x in (1, 2, 3, paper[1], p // 2, p // 2 + 1, p - 2, p - 1) + GREAT:
                    right = sorted({x % p, -x % p})
                    self.assertEqual(square_roots(paper, x * x), right)
                    self.assertEqual(square_roots(paper, x * x % p - p), right)
                    self.assertEqual(square_roots(paper, x * x * paper[1]), [])
                for a in (0, p, -p, p * 10 ** 50, -p * 10 ** 50):
                    self.assertEqual(square_roots(paper, a), [0])

    def test_each_great_number_has_its_roots_or_none(self):
        for p in GREAT_PRIMES:
            paper = prime_paper(p)
            for a in list(range(-20, 20)) + list(GREAT):
                told = square_roots(paper, a)
                self.assertTrue(all((x * x - a) % p == 0 for x in told))
                self.assertEqual(told, sorted(told))
                self.assertEqual(len(told), 1 if a % p == 0 else 0 if pow(a, (p - 1) // 2, p) == p - 1 else 2)

    def test_the_asker_owns_it(self):
        paper = prime_paper(7)
        for a in (0, 2, 3):
            square_roots(paper, a).append(9)
        self.assertEqual([square_roots(paper, a) for a in (0, 2, 3)], [[0], [3, 4], []])


class NoSquare(unittest.TestCase):

    def test_small_primes(self):
        for p in SMALL_PRIMES:
            paper = prime_paper(p)
            for a in range(-p - 2, 2 * p + 3):
                told = no_square(paper, a)
                if any((x * x - a) % p == 0 for x in range(p)):
                    self.assertIsNone(told, (p, a))
                else:
                    self.assertEqual(told, pow(a, (p - 1) // 2, p), (p, a))
                    self.assertEqual(told, p - 1)
                    self.assertIs(type(told), int)

    def test_edges(self):
        for a in (0, 1, 2, -1, SIXTY, -SIXTY):
            self.assertIsNone(no_square(prime_paper(2), a))
        self.assertEqual(no_square(prime_paper(3), 2), 2)
        self.assertEqual(no_square(prime_paper(3), -SIXTY - 1), 2)
        self.assertIsNone(no_square(prime_paper(3), 3))

    def test_great_primes(self):
        for p in GREAT_PRIMES:
            paper = prime_paper(p)
            self.assertEqual(no_square(paper, paper[1]), p - 1)
            self.assertEqual(no_square(paper, paper[1] * SIXTY * SIXTY), p - 1)
            for a in (0, 1, 4, paper[1] ** 2, p, -p * SIXTY, SIXTY * SIXTY):
                self.assertIsNone(no_square(paper, a))


class RootWalk(unittest.TestCase):

    def look(self, paper, a):
        p, full, _ = paper
        walk = root_walk(paper, a)
        self.assertEqual(walk, walk_by_hand(p, full, a), (p, a))
        self.assertIs(type(walk), list)
        self.assertTrue(all(type(row) is tuple for row in walk) and is_plain(walk))
        self.assertTrue(all((r * r - a * t) % p == 0 for r, t, _ in walk))
        falling = [m for _, _, m in walk]
        self.assertEqual(falling, sorted(set(falling), reverse=True))
        self.assertEqual(walk[-1][1:], (1, 0))
        self.assertEqual((walk[-1][0] ** 2 - a) % p, 0)
        return walk

    def test_small_primes(self):
        for p in SMALL_PRIMES:
            paper = prime_paper(p)
            for x in range(1, p):
                for a in (x * x, x * x % p - p, x * x + p * 10 ** 50):
                    self.look(paper, a)

    def test_the_full_number_is_the_papers(self):
        walks = set()
        for paper in other_papers(17) + other_papers(97):
            for x in range(1, 10):
                walks.add(str(self.look(paper, x * x)))
        self.assertGreater(len(walks), 20)

    def test_great_primes(self):
        with soon():
            for p in GREAT_PRIMES:
                paper = prime_paper(p)
                for x in (1, 2, 3, paper[1], p - 1) + GREAT:
                    self.look(paper, x * x)

    def test_long_walks(self):
        paper = prime_paper(469762049)
        self.assertGreater(max(len(self.look(paper, a * a)) for a in range(2, 40)), 10)
        # The square of the full number has m as great as can be.
        self.assertEqual(self.look(paper, paper[1] ** 2)[0][2], 25)

    def test_edges(self):
        self.assertEqual(root_walk(prime_paper(2), 1), [(1, 1, 0)])
        self.assertEqual(root_walk(prime_paper(2), -SIXTY), [(1, 1, 0)])
        self.assertEqual(root_walk(prime_paper(3), 1), [(1, 1, 0)])
        self.assertEqual(root_walk(prime_paper(7), 2), [(4, 1, 0)])
        self.assertEqual(root_walk(prime_paper(5), 4), [(4, 4, 1), (3, 1, 0)])

    def test_nought(self):
        for p in (2, 3, 5, 7, 97, 999999937):
            for a in (0, p, -p, p * 10 ** 50):
                with self.assertRaises(Nought):
                    root_walk(prime_paper(p), a)

    def test_no_root(self):
        for p in SMALL_PRIMES[1:] + list(GREAT_PRIMES):
            paper = prime_paper(p)
            for a in (paper[1], paper[1] - p, paper[1] + p * 10 ** 50):
                with self.assertRaises(NoRoot) as caught:
                    root_walk(paper, a)
                self.assertEqual(caught.exception.rest, p - 1)

    def test_the_asker_owns_it(self):
        paper = prime_paper(17)
        root_walk(paper, 2).clear()
        self.look(paper, 2)


if __name__ == "__main__":
    unittest.main()
