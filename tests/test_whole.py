"""Point 4: what the stages promise together."""

import math
import unittest

from rootprime.books import answers
from rootprime.errors import NoPrime, Nought, TooFar, TooMany
from rootprime.kept import Kept
from rootprime.looker import first_wrong
from rootprime.lowchecks import is_order, is_order_paper, is_parting_paper, is_prime_paper
from rootprime.manyprimes import order_of, roots_of, which_of
from rootprime.morechecks import shows_roots_of, shows_squares, shows_which_of
from rootprime.orders import order
from rootprime.papertexts import read, show
from rootprime.primepapers import parting_paper, prime_paper
from rootprime.roots import roots
from rootprime.squares import square_roots
from rootprime.together import put_together, taken_apart
from rootprime.twosquares import all_squares, two_squares
from rootprime.upchecks import shows_roots, shows_which
from rootprime.whichpower import which
from tests.helper import GREAT_PRIMES, SMALL_PRIMES, is_prime, papers_of, soon

SOME = ([2], [7], [2, 3], [5, 7], [3, 7, 13], [2, 3, 5, 7, 11], sorted(GREAT_PRIMES[2:7]))


class Whole(unittest.TestCase):

    def test_primes_have_papers_and_others_a_divisor(self):
        for n in range(2, 500):
            if is_prime(n):
                self.assertIs(is_prime_paper(prime_paper(n)), True)
                self.assertEqual(read(show(prime_paper(n))), prime_paper(n))
            else:
                with self.assertRaises(NoPrime) as caught:
                    prime_paper(n)
                self.assertEqual(caught.exception.divisor, min(d for d in range(2, n + 1) if n % d == 0))
            self.assertIs(is_parting_paper(n, parting_paper(n)), True)
            self.assertIs(shows_squares(n, parting_paper(n), all_squares(parting_paper(n))), True)

    def test_one_prime(self):
        with soon(60):
            for p in SMALL_PRIMES[:12] + list(GREAT_PRIMES):
                paper = prime_paper(p)
                for a in (-1, 0, 1, 2, 5, p - 1, 10 ** 50 + 9):
                    self.look_at_one(paper, a)

    def look_at_one(self, paper, a):
        p = paper[0]
        self.assertEqual(square_roots(paper, a), roots(paper, 2, a)[0])
        for k in (1, 2, 3, 7, 10 ** 9 - 1):
            told = roots(paper, k, a)
            self.assertIs(shows_roots(paper, k, a, told), True)
            self.assertTrue(all((pow(x, k, p) - a) % p == 0 for x in told[0]))
            self.assertEqual(roots_of([paper], k, a)[0], told[0])
        if a % p == 0:
            self.assertRaises(Nought, order, paper, a)
            return
        self.assertIs(is_order_paper(p, a, order(paper, a)), True)
        self.assertIs(is_order(paper, a, order(paper, a)[0]), True)
        self.assertEqual(order_of([paper], a), order(paper, a)[0])
        for b in (2, 3, -5):
            try:
                told = which(paper, b, a)
            except (Nought, TooFar):
                continue
            self.assertIs(shows_which(paper, b, a, told), True)
            self.assertEqual(which_of([paper], b, a)[0], told[0])

    def test_sums_of_two_squares_of_a_prime(self):
        for p in SMALL_PRIMES + list(GREAT_PRIMES):
            pair = two_squares(prime_paper(p))
            self.assertEqual(all_squares(((prime_paper(p), 1),))[0], [] if pair is None else [pair])

    def test_several_primes_come_apart_again(self):
        with soon(60):
            for primes in SOME:
                papers = papers_of(primes)
                for a in (1, 4, 9, 64, -27, 2 ** 60, 0, math.prod(primes) // primes[0]):
                    for k in (1, 2, 3):
                        self.look_at_roots(papers, primes, k, a)
                    for b in (2, 3, 17, -1):
                        self.look_at_which(papers, primes, b, a)

    def look_at_roots(self, papers, primes, k, a):
        try:
            found, shown = roots_of(papers, k, a)
        except TooMany as refusal:
            self.assertEqual(refusal.many, math.prod(len(roots(paper, k, a)[0]) for paper in papers))
            return
        self.assertIs(shows_roots_of(papers, k, a, (found, shown)), True)
        rests = [taken_apart(x, primes) for x in found]
        for n, paper in enumerate(papers):
            by_one = roots(paper, k, a)[0]
            if shown[0] == "by":
                self.assertEqual(sorted({row[n] for row in rests}), by_one)
        self.assertEqual(len(found), math.prod(len(roots(paper, k, a)[0]) for paper in papers))
        for x, row in zip(found, rests):
            self.assertEqual(put_together(list(zip(primes, row))), (math.prod(primes), x))

    def look_at_which(self, papers, primes, b, a):
        if any(a % p == 0 or b % p == 0 for p in primes):
            self.assertRaises(Nought, which_of, papers, b, a)
            return
        try:
            x, shown = which_of(papers, b, a)
        except TooFar:
            return
        self.assertIs(shows_which_of(papers, b, a, (x, shown)), True)
        if x is not None:
            moduli = [order(paper, b)[0] for paper in papers]
            self.assertEqual(taken_apart(x, moduli), [which(paper, b, a)[0] for paper in papers])
            self.assertEqual(order_of(papers, b), math.lcm(*moduli))
            self.assertLess(x, order_of(papers, b))

    def test_asked_again_with_a_kept_table(self):
        asked = [(papers_of(primes), b, a) for primes in SOME for b, a in ((13, 13 ** 7), (17, 1), (19, -19))
                 if all(b % p for p in primes)]
        for most in (1, 2, 8, 64):
            kept = Kept(most)
            for papers, b, a in asked * 3:
                told = which_of(papers, b, a, kept)
                self.assertEqual(told, which_of(papers, b, a))
                self.assertEqual(told, which_of(papers, b, a, kept))
                self.assertLessEqual(len(kept.tables()), most)
        for papers, b, a in asked:
            kept = Kept(64)
            which_of(papers, b, a, kept)
            first, tables = kept.steps(), kept.tables()
            which_of(papers, b, a, kept)
            # The small steps are spared: the least m with m * m not below q, of each table's q.
            laid = sum(math.isqrt(q - 1) + 1 for _, q, _ in tables)
            self.assertEqual((kept.steps(), kept.tables()), (2 * first - laid, tables))

    def test_a_book_is_answered_and_looked_at(self):
        lines = []
        for primes in ("2", "7", "5*7", "2*3*5*7*11", "*".join(str(p) for p in SOME[-1])):
            for a in (-3, 1, 4, 35):
                lines += [f"order {a} by {primes}", f"power {a} 77 by {primes}", f"roots 2 {a} by {primes}",
                          f"roots 408 {a} by {primes}", f"which 13 {a} by {primes}"]
        lines += [f"{kind} {n}" for kind in ("prime", "part", "squares") for n in (2, 49, 65, 561, 10 ** 9, 999999937)]
        kept = Kept(4)
        told = []
        for at in range(0, len(lines), 60):
            book = "\n".join(lines[at:at + 60])
            rows = answers(book, kept)
            self.assertEqual(rows, answers(book))
            self.assertEqual(rows, answers(book, kept))
            told += rows
        self.assertEqual([row[0] for row in told], lines)
        self.assertIsNone(first_wrong(told))
        for at, row in enumerate(told):
            self.assertEqual(first_wrong(told[:at] + [(row[0], row[1] + " 1", row[2])] + told[at:]), at)
            self.assertEqual(show(read(row[2])), row[2])


if __name__ == "__main__":
    unittest.main()
