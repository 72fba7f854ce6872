"""Points 25 and 28: the readers of roots and of which power let by what is right, and nothing else."""

import copy
import math
import unittest

from rootprime.orders import order
from rootprime.primepapers import prime_paper
from rootprime.roots import roots
from rootprime.upchecks import shows_roots, shows_which
from rootprime.whichpower import which
from tests.helper import (
    GREAT, GREAT_PRIMES, PAPERS_ABOVE, SIXTY, SMALL_PRIMES, bends, every_kind, is_one_of, is_right_prime_paper,
    other_papers, soon, told_roots, told_which,
)


def turns(p, turn, d):
    """All numbers of the order d, turn being one of them."""
    return sorted(pow(turn, x, p) for x in range(d) if math.gcd(x, d) == 1)


def all_told(p, told):
    """What is told, with each turn that is let."""
    found, shown = told
    if shown[0] != "turned":
        return [told]
    return [(found, shown[:2] + (turn,)) for turn in turns(p, shown[2], len(found))]


class ShowsRoots(unittest.TestCase):

    def look_at_bends(self, paper, k, a, told):
        """Each thing that is bent at one place is let by just where it is right."""
        rights = all_told(paper[0], told)
        for right in rights:
            self.assertIs(shows_roots(paper, k, a, right), True, (paper[0], k, a, right))
        for bent in bends(told):
            self.assertIs(shows_roots(paper, k, a, bent), is_one_of(bent, rights), (paper[0], k, a, bent))

    def test_what_is_told_with_each_turn_and_full_number(self):
        for p in SMALL_PRIMES[:10]:
            for paper in other_papers(p):
                for k in (1, 2, 3, 4, 6, 7, p - 1, 2 * p, 10 ** 9):
                    for a in range(-1, p + 1):
                        for told in told_roots(p, k, a) + [roots(paper, k, a)]:
                            self.assertIs(shows_roots(paper, k, a, told), True, (p, k, a, told))

    def test_each_turn_and_no_other(self):
        for p, k in ((7, 2), (7, 6), (31, 5), (31, 6), (31, 7), (61, 12)):
            for a in (0, 1, 2):
                rights = told_roots(p, k, a)
                for turn in range(-p - 1, 2 * p + 2):
                    told = (rights[0][0], ("turned", min(rights[0][0], default=0), turn))
                    self.assertIs(shows_roots(prime_paper(p), k, a, told), is_one_of(told, rights), (p, k, a, turn))

    def test_bent_at_each_place(self):
        for p, k, a in ((2, 1, 1), (2, 6, 0), (3, 2, 1), (3, 2, 2), (7, 1, 3), (7, 2, 2), (7, 2, 3), (7, 2, 7),
                        (7, 3, 6),
                        (7, 6, 1), (7, 5, 4), (13, 4, 3), (31, 6, 2), (31, 10 ** 9, 25)):
            with soon(30):
                self.look_at_bends(prime_paper(p), k, a, roots(prime_paper(p), k, a))

    def test_bent_with_great_primes(self):
        for paper in [prime_paper(p) for p in GREAT_PRIMES] + list(PAPERS_ABOVE):
            p = paper[0]
            for k, a in ((1, SIXTY), (2, 4), (2, paper[1]), (6, 64), (9, 0), (10 ** 9 - 1, 1), (7, 2 ** 7), (p - 1, 2)):
                d = math.gcd(k, p - 1)
                if d <= 30 or a == 2:
                    with soon(30):
                        self.look_at_bends(paper, k, a, self.told_by(paper, k, a, d))

    def told_by(self, paper, k, a, d):
        """What is told of a prime of any size: of these a some roots are known."""
        p, full, _ = paper
        if p < 10 ** 9:
            return roots(paper, k, a)
        e = (p - 1) // d
        if a % p == 0:
            return ([0], ("nought",))
        if pow(a, e, p) != 1:
            return ([], ("none", e, pow(a, e, p)))
        one = pow(a, pow(k, -1, p - 1), p) if d == 1 else 2 if a % p == pow(2, k, p) else 1
        self.assertEqual((pow(one, k, p) - a) % p, 0)
        found = sorted(one * pow(full, e * x, p) % p for x in range(d))
        return (found, ("turned", found[0], pow(full, e, p)))

    def test_a_bent_paper(self):
        for p, k, a in ((2, 1, 1), (3, 2, 1), (7, 2, 2), (7, 2, 3), (7, 3, 0), (11, 3, 5)):
            paper = prime_paper(p)
            told = roots(paper, k, a)
            for bent in bends(paper):
                right = is_right_prime_paper(bent) and is_one_of(told, told_roots(bent[0], k, a))
                self.assertIs(shows_roots(bent, k, a, told), right, (bent, k, a))

    def test_no_prime(self):
        two = (2, 1, ())
        for paper in ((9, 2, ((two, 3),)), (1, 0, ()), (4, 3, (((3, 2, ((two, 1),)), 1),)), (15, 2, ()), (7, 3, ())):
            for thing in (([0], ("nought",)), ([1], ("turned", 1, 1)), ([], ("none", 1, 2)),
                          ([1, 8], ("turned", 1, 8))):
                for k, a in ((1, 0), (1, 1), (2, 1), (2, 2), (8, 2)):
                    self.assertIs(shows_roots(paper, k, a, thing), False)

    def test_told_of_another(self):
        paper = prime_paper(31)
        questions = [(k, a) for k in (1, 2, 3, 4, 5, 6) for a in range(0, 31, 3)]
        for k, a in questions:
            told = roots(paper, k, a)
            for other_k, other_a in questions:
                right = is_one_of(told, told_roots(31, other_k, other_a))
                self.assertIs(shows_roots(paper, other_k, other_a, told), right)
            self.assertIs(shows_roots(paper, k, a - 31 * 10 ** 50, told), True)

    def test_roots_left_out_or_told_otherwise(self):
        paper = prime_paper(31)
        found, shown = roots(paper, 6, 2)
        self.assertEqual(len(found), 6)
        for wrong in (found[:-1], found[1:], found[::-1], found + [found[-1]], found[:1] * 6, found[:5] + [found[4]],
                      [x + 31 for x in found], found[:5] + [found[5] + 31], [found[0] - 31] + found[1:],
                      [found[5] - 31] + found[:5], [-x for x in found[::-1]], [1, 2, 3, 4, 5, 6], tuple(found), []):
            self.assertIs(shows_roots(paper, 6, 2, (wrong, shown)), False, wrong)
            least = min(wrong, default=0)
            self.assertIs(shows_roots(paper, 6, 2, (wrong, ("turned", least, shown[2]))), False, wrong)
        self.assertIs(shows_roots(paper, 6, 2, (found, ("turned", found[1], shown[2]))), False)

    def test_four_hundred_and_more(self):
        with soon():
            told = roots(prime_paper(401), 400, 1)
            self.assertEqual(len(told[0]), 400)
            self.assertIs(shows_roots(prime_paper(401), 400, 1, told), True)
            self.assertIs(shows_roots(prime_paper(401), 400, 1, (told[0][:-1] + [400.5], told[1])), False)
            self.assertIs(shows_roots(prime_paper(401), 400, 1, (told[0][:-1], told[1])), False)
            self.assertIs(shows_roots(prime_paper(401), 400, 1, ([True] + told[0][1:], told[1])), False)
            # All of it is right, but it isn't told, as there are too many.
            for p in (409, 419, 1201):
                paper = prime_paper(p)
                all_roots = (list(range(1, p)), ("turned", 1, paper[1]))
                self.assertIs(shows_roots(paper, p - 1, 1, all_roots), False)
                self.assertIs(shows_roots(paper, p - 1, 2, ([], ("none", 1, 2))), True)
                self.assertIs(shows_roots(paper, p - 1, p, ([0], ("nought",))), True)

    def test_none_and_nought(self):
        paper = prime_paper(7)
        for a in range(-7, 8):
            for thing in (([], ("none", 3, 6)), ([], ("none", 3, 1)), ([], ("none", 6, 1)), ([0], ("nought",)),
                          ([], ()),
                          ([], ("nought",)), ([0], ("none", 3, 0)), ([], ("none", 3, 0)), ([0], ("turned", 0, 6)),
                          ([], ("none", 3, 6, 0)), ([], ("none", 3)), ((), ("none", 3, 6)), (None, ("none", 3, 6))):
                right = is_one_of(thing, told_roots(7, 2, a))
                self.assertIs(shows_roots(paper, 2, a, thing), right, (a, thing))

    def test_every_kind(self):
        paper = prime_paper(7)
        told = roots(paper, 2, 2)
        for thing in every_kind():
            self.assertIs(shows_roots(paper, 2, 2, thing), False)
            self.assertIs(shows_roots(paper, 2, 2, (told[0], thing)), False)
            self.assertIs(shows_roots(paper, 2, 2, (thing, told[1])), False)
            self.assertIs(shows_roots(paper, 2, 2, ([thing], ("turned", thing, thing))), False)
            self.assertIs(shows_roots(thing, 2, 2, told), False)
            self.assertIs(shows_roots(thing, 2, 2, thing), False)

    def test_soon(self):
        numbers = list(GREAT) + [10 ** 60 - 59, 3 * 2 ** 189, 2 ** 189]
        with soon():
            for paper in PAPERS_ABOVE + (prime_paper(999999937),):
                for k in (1, 2, 10 ** 9, 10 ** 9 - 1, 3 * 2 ** 7):
                    for a in numbers + [1]:
                        for number in numbers:
                            for thing in (([number], ("turned", number, number)), ([], ("none", number, number)),
                                          (sorted(numbers) * 50, ("turned", -SIXTY, number))):
                                self.assertIs(shows_roots(paper, k, a, thing), False)

    def test_four_hundred_roots_of_a_great_prime_come_soon(self):
        paper = PAPERS_ABOVE[2]
        p, full, _ = paper
        found = sorted(SIXTY * pow(full, (p - 1) // 384 * x, p) % p for x in range(384))
        told = (found, ("turned", found[0], pow(full, (p - 1) // 384, p)))
        with soon():
            self.assertIs(shows_roots(paper, 384 * 10 ** 6 + 384, pow(SIXTY, 384 * 10 ** 6 + 384, p), told), True)
            self.assertIs(shows_roots(paper, 384, pow(SIXTY, 384, p), told), True)
            self.assertIs(shows_roots(paper, 384, pow(SIXTY, 384, p) + 1, told), False)

    def test_an_order_somewhat_beyond_the_bounds(self):
        for p in (2, 3, 7, 13):
            paper = prime_paper(p)
            for k in (0, -1, -2, -5, 10 ** 9 + 1, 2 * 10 ** 9):
                for a in range(-1, p + 2):
                    told = roots(paper, k, a)
                    self.assertIs(shows_roots(paper, k, a, told), True, (p, k, a, told))
                    for bent in bends(told):
                        self.assertIn(shows_roots(paper, k, a, bent), (True, False))

    def test_nothing_is_changed(self):
        paper = prime_paper(31)
        told = roots(paper, 6, 2)
        before = copy.deepcopy((paper, told))
        shows_roots(paper, 6, 2, told)
        shows_roots(paper, 6, 3, told)
        self.assertEqual((paper, told), before)


class ShowsWhich(unittest.TestCase):

    def look_at_bends(self, paper, b, a, told):
        self.assertIs(shows_which(paper, b, a, told), True, (paper[0], b, a, told))
        for bent in bends(told):
            self.assertIs(shows_which(paper, b, a, bent), is_one_of(bent, [told]), (paper[0], b, a, bent))

    def test_what_is_told_with_each_full_number(self):
        for p in SMALL_PRIMES[:9]:
            for paper in other_papers(p):
                for b in range(1, p):
                    for a in range(1, p):
                        told = which(paper, b, a)
                        self.assertIs(shows_which(paper, b, a, told), True)
                        self.assertIs(shows_which(paper, b - p, a + p * 10 ** 50, told), True)

    def test_bent_at_each_place(self):
        for p, b, a in ((2, 1, 1), (3, 2, 1), (3, 2, 2), (3, 1, 2), (7, 3, 5), (7, 3, 1), (7, 2, 4), (7, 2, 3),
                        (7, 1, 1),
                        (7, 1, 3), (17, 3, 11), (17, 3, 1), (31, 3, 30), (31, 5, 3), (61, 2, 7), (163, 2, 5)):
            with soon(30):
                self.look_at_bends(prime_paper(p), b, a, which(prime_paper(p), b, a))

    def told_by(self, paper, b, x):
        """What would be told of b's power to x, whatever primes there are in the order."""
        p = paper[0]
        parting = [(row[0][0], row[1]) for row in paper[2]]
        e = p - 1
        for q, many in parting:
            for _ in range(many):
                e = e // q if pow(b, e // q, p) == 1 else e
        rows = []
        for q, _ in parting:
            digits, left, rest = [], e, x % e
            while left % q == 0:
                digits.append(rest % q)
                left, rest = left // q, rest // q
            if digits:
                rows.append((q, tuple(digits)))
        return (x % e, ("is", e, tuple(rows)))

    def test_bent_with_great_primes(self):
        for p in GREAT_PRIMES[:5]:
            paper = prime_paper(p)
            for b, x in ((paper[1], 2 * 10 ** 8 + 1), (paper[1] ** 2, 77), (-1, 1), (SIXTY, SIXTY)):
                self.look_at_bends(paper, b, pow(b, x, p), self.told_by(paper, b, x))
            e = order(paper, paper[1] ** 2)[0]
            self.look_at_bends(paper, paper[1] ** 2, paper[1], (None, ("none", e, p - 1)))

    def test_a_great_prime_in_the_order(self):
        for paper in (prime_paper(71850239), prime_paper(999999929), prime_paper(36 * 1000003 + 1)) + PAPERS_ABOVE:
            p = paper[0]
            for b in (paper[1], paper[1] ** 2, 7, -SIXTY):
                for x in (0, 1, 2, p // 3, p - 2, SIXTY):
                    told = self.told_by(paper, b, x)
                    self.assertIs(shows_which(paper, b, pow(b, x, p), told), True)
                    self.assertIs(shows_which(paper, b, pow(b, x, p) + p * 10 ** 30, told), True)
                    self.assertIs(shows_which(paper, b, pow(b, x, p) + 1, told), False)
        paper = PAPERS_ABOVE[0]
        a = pow(paper[1], 123456789, paper[0])
        self.look_at_bends(paper, paper[1], a, self.told_by(paper, paper[1], 123456789))

    def test_not_the_least(self):
        paper = prime_paper(7)
        for x in (-4, 2, 5, 8, 3 * 10 ** 50 + 2):
            told = (x, ("is", 3, ((3, (2,)),)))
            self.assertIs(shows_which(paper, 2, 4, told), x == 2)
        # Right but for the order, which is told too great.
        self.assertIs(shows_which(paper, 2, 4, (2, ("is", 6, ((2, (0,)), (3, (2,)))))), False)
        self.assertIs(shows_which(paper, 2, 4, (5, ("is", 6, ((2, (1,)), (3, (2,)))))), False)
        self.assertIs(shows_which(paper, 6, 1, (0, ("is", 1, ()))), False)

    def test_nought(self):
        paper = prime_paper(7)
        for b, a in ((0, 1), (1, 0), (7, 3), (3, 7), (0, 0), (14, -7)):
            for thing in ((0, ("is", 1, ())), (None, ("none", 6, 0)), (None, ("none", 1, 0)), (None, ("none", 3, 0)),
                          (0, ("is", 6, ((2, (0,)), (3, (0,))))), (None, ("nought",)), (1, ("is", 1, ())),
                          (0, ("nought", 1, ())), (0, ("is", 0, ())), (None, ("none", 0, 1))):
                self.assertIs(shows_which(paper, b, a, thing), False, (b, a, thing))
                self.assertIs(shows_which(prime_paper(2), 2 * b, a, thing), False)

    def test_none_where_there_is_one(self):
        paper = prime_paper(7)
        for b in range(1, 7):
            for a in range(1, 7):
                for e in range(-1, 8):
                    for rest in (pow(a, abs(e), 7), 0, 1, 6):
                        thing = (None, ("none", e, rest))
                        self.assertIs(shows_which(paper, b, a, thing), is_one_of(thing, [told_which(7, b, a)]))

    def test_a_bent_paper(self):
        for p, b, a in ((2, 1, 1), (3, 2, 1), (7, 3, 5), (7, 2, 3), (11, 3, 5)):
            paper = prime_paper(p)
            told = which(paper, b, a)
            for bent in bends(paper):
                right = is_right_prime_paper(bent) and b % bent[0] and a % bent[0]
                right = bool(right) and is_one_of(told, [told_which(bent[0], b, a)])
                self.assertIs(shows_which(bent, b, a, told), right, (bent, b, a))

    def test_every_kind(self):
        paper = prime_paper(7)
        told = which(paper, 3, 5)
        for thing in every_kind():
            self.assertIs(shows_which(paper, 3, 5, thing), False)
            self.assertIs(shows_which(paper, 3, 5, (thing, told[1])), False)
            self.assertIs(shows_which(paper, 3, 5, (5, thing)), False)
            self.assertIs(shows_which(paper, 3, 5, (None, thing)), False)
            self.assertIs(shows_which(paper, 3, 5, (None, ("none", thing, 1))), False)
            self.assertIs(shows_which(paper, 3, 5, (5, ("is", thing, told[1][2]))), False)
            self.assertIs(shows_which(paper, 3, 5, (5, ("is", 6, thing))), False)
            self.assertIs(shows_which(paper, 3, 5, (5, ("is", 6, ((2, (1,)), thing)))), False)
            self.assertIs(shows_which(thing, 3, 5, told), False)

    def test_soon(self):
        numbers = list(GREAT) + [3 * 2 ** 189, 2 ** 189, 1]
        with soon():
            for paper in PAPERS_ABOVE + (prime_paper(999999937),):
                for b in numbers:
                    for a in numbers[:4]:
                        for number in numbers:
                            for thing in ((number, ("is", number, ())), (None, ("none", number, number)),
                                          (number, ("is", paper[0] - 1, ((2, (number,) * 300),)))):
                                if number != 1 or b != 1 or thing[0] is None:
                                    self.assertIs(shows_which(paper, b, a, thing), False)

    def test_nothing_is_changed(self):
        paper = prime_paper(31)
        told = which(paper, 3, 2)
        before = copy.deepcopy((paper, told))
        shows_which(paper, 3, 2, told)
        self.assertEqual((paper, told), before)


if __name__ == "__main__":
    unittest.main()
