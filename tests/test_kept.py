"""Points 38 and 39: kept tables, and the steps that are counted."""

import unittest

from rootprime.kept import Kept
from rootprime.primepapers import prime_paper
from rootprime.whichpower import which
from tests.helper import is_one_of


def table_of(p):
    """The one table that is laid for an order 2 by p."""
    return (p, 2, p - 1)


def use(kept, *primes):
    """Uses for each prime p the table of (p, 2, p - 1): two small steps where it is laid, one great step."""
    for p in primes:
        which(prime_paper(p), -1, 1, kept)


class KeptTables(unittest.TestCase):

    def test_a_new_one(self):
        for most in (1, 2, 8, 63, 64):
            kept = Kept(most)
            self.assertTrue(is_one_of(kept.steps(), [0]))
            self.assertTrue(is_one_of(kept.tables(), [[]]))

    def test_laid_once(self):
        kept = Kept(1)
        use(kept, 7)
        self.assertTrue(is_one_of(kept.steps(), [3]))
        self.assertTrue(is_one_of(kept.tables(), [[(7, 2, 6)]]))
        use(kept, 7, 7)
        self.assertEqual((kept.steps(), kept.tables()), (5, [(7, 2, 6)]))

    def test_one_too_many(self):
        kept = Kept(3)
        use(kept, 3, 5, 7)
        self.assertEqual((kept.steps(), kept.tables()), (9, [table_of(p) for p in (3, 5, 7)]))
        use(kept, 11)
        self.assertEqual((kept.steps(), kept.tables()), (12, [table_of(p) for p in (5, 7, 11)]))
        use(kept, 3)
        self.assertEqual((kept.steps(), kept.tables()), (15, [table_of(p) for p in (7, 11, 3)]))

    def test_being_used_puts_it_behind_the_others(self):
        kept = Kept(3)
        use(kept, 3, 5, 7, 3)
        self.assertEqual((kept.steps(), kept.tables()), (10, [table_of(p) for p in (5, 7, 3)]))
        use(kept, 7)
        self.assertEqual(kept.tables(), [table_of(p) for p in (5, 3, 7)])
        use(kept, 11)
        self.assertEqual(kept.tables(), [table_of(p) for p in (3, 7, 11)])
        use(kept, 5, 7)
        self.assertEqual((kept.steps(), kept.tables()), (18, [table_of(p) for p in (11, 5, 7)]))

    def test_of_one(self):
        kept = Kept(1)
        for steps, p in ((3, 3), (6, 5), (7, 5), (10, 3), (13, 5)):
            use(kept, p)
            self.assertEqual((kept.steps(), kept.tables()), (steps, [table_of(p)]))

    def test_of_sixty_four(self):
        primes = [p for p in range(3, 500) if all(p % d for d in range(2, p))][:66]
        kept = Kept(64)
        use(kept, *primes[:64])
        self.assertEqual((kept.steps(), kept.tables()), (192, [table_of(p) for p in primes[:64]]))
        use(kept, primes[64], primes[65], primes[2], primes[0])
        self.assertEqual(kept.tables(), [table_of(p) for p in primes[4:66] + [primes[2], primes[0]]])
        self.assertEqual(kept.steps(), 192 + 3 + 3 + 1 + 3)

    def test_a_table_is_known_by_p_q_and_w(self):
        kept = Kept(64)
        # By 31, of the order 3 there are two numbers, 5 and 25: two tables with other w.
        which(prime_paper(31), 5, 25, kept)
        which(prime_paper(31), 25, 5, kept)
        which(prime_paper(31), 2, 4, kept)
        # By 7 one w, 2, serves 3 and 2.
        which(prime_paper(7), 3, 1, kept)
        which(prime_paper(7), 2, 1, kept)
        self.assertEqual(kept.tables(), [(31, 3, 5), (31, 3, 25), (31, 5, 2), (7, 2, 6), (7, 3, 2)])

    def test_the_asker_owns_the_list(self):
        kept = Kept(2)
        use(kept, 3, 5)
        kept.tables().clear()
        kept.tables().append(7)
        kept.tables().reverse()
        self.assertEqual(kept.tables(), [table_of(3), table_of(5)])
        told = kept.tables()
        use(kept, 7)
        self.assertEqual(told, [table_of(3), table_of(5)])
        self.assertEqual((kept.steps(), kept.tables()), (9, [table_of(5), table_of(7)]))

    def test_each_keeps_its_own(self):
        one, other = Kept(2), Kept(2)
        use(one, 3)
        self.assertEqual((other.steps(), other.tables()), (0, []))
        use(other, 3, 5)
        self.assertEqual((one.steps(), one.tables()), (3, [table_of(3)]))

    def test_what_is_told_is_the_same_whatever_it_keeps(self):
        kept = Kept(2)
        for turn in range(2):
            for p in (7, 31, 163, 7, 999999937, 31):
                paper = prime_paper(p)
                for b, a in ((paper[1], 5), (paper[1] ** 2, 4), (-1, -1), (paper[1], paper[1])):
                    self.assertEqual(which(paper, b, a, kept), which(paper, b, a))


if __name__ == "__main__":
    unittest.main()
