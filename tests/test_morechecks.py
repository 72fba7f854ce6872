"""Points 33 and 36: the readers by several primes, and of two squares, let by what is right, and nothing else."""

import copy
import itertools
import math
import unittest

from rootprime.manyprimes import roots_of, which_of
from rootprime.morechecks import shows_roots_of, shows_squares, shows_which_of
from rootprime.primepapers import parting_paper, prime_paper
from tests.helper import (
    GREAT, GREAT_PRIMES, JUST_MOST, PAPERS_ABOVE, SIXTY, TOO_MANY, alike, bends, every_kind, factors, is_one_of,
    is_right_parting_paper, is_right_prime_paper, number_of, other_papers, paper_above, papers_of, parts_of, soon,
    squares_by_product, told_roots_of, told_squares, told_which_of,
)

SOME = [[2], [3], [7], [2, 3], [2, 31], [5, 7], [7, 13], [2, 3, 5], [3, 7, 13], [2, 3, 5, 7], [2, 3, 5, 7, 11]]


def are_right_papers(things):
    """The words of 33 on papers."""
    if not (type(things) is list and 1 <= len(things) <= 5 and all(is_right_prime_paper(thing) for thing in things)):
        return False
    primes = [thing[0] for thing in things]
    return primes == sorted(set(primes))


def wrong_papers(papers):
    """Papers that are right ones each, but aren't such a list."""
    six = papers_of([2, 3, 5, 7, 11, 13])
    return [tuple(papers), papers[::-1] if len(papers) > 1 else [], papers + papers[-1:], papers[:1] + papers, [],
            [papers], papers + [None], papers + [()], [True] + papers, six, six + six, six * 60, None,
            {p: paper for p, paper in enumerate(papers)}, papers[0], [list(paper) for paper in papers]]


class ShowsRootsOf(unittest.TestCase):

    def test_what_is_told_and_whatever_else_is_let(self):
        for primes in SOME:
            papers = papers_of(primes)
            for k in (1, 2, 3, 4, 6, 10 ** 9):
                for a in range(-1, 30, 1 if len(primes) < 4 else 4):
                    for told in told_roots_of(primes, k, a)[:20] + [roots_of(papers, k, a)]:
                        self.assertIs(shows_roots_of(papers, k, a, told), True, (primes, k, a, told))

    def test_any_place_without_a_root(self):
        primes = [3, 5, 7, 11, 13]
        papers = papers_of(primes)
        for a in range(-20, 20):
            rights = told_roots_of(primes, 2, a)
            for n in range(-6, 7):
                for p in primes:
                    told = ([], ("none", n, (p - 1) // 2, p - 1))
                    self.assertIs(shows_roots_of(papers, 2, a, told), is_one_of(told, rights), (a, told))

    def test_other_full_numbers(self):
        for one, other in itertools.product(other_papers(7), other_papers(13)):
            for a in range(8):
                for told in told_roots_of([7, 13], 3, a):
                    self.assertIs(shows_roots_of([one, other], 3, a, told), True)

    def test_bent_at_each_place(self):
        for primes, k, a in (([2], 1, 1), ([7], 2, 2), ([7], 2, 3), ([7], 2, 0), ([2, 3], 2, 0), ([3, 5], 2, 4),
                             ([3, 5], 2, 9), ([3, 5], 2, 2), ([5, 7], 2, 2), ([2, 7, 13], 3, 27), ([3, 5, 7], 2, 1),
                             ([2, 3, 5, 7, 11], 2, 15), ([7, 13], 3, 8)):
            papers = papers_of(primes)
            told = roots_of(papers, k, a)
            rights = told_roots_of(primes, k, a)
            with soon(30):
                for bent in bends(told):
                    self.assertIs(shows_roots_of(papers, k, a, bent), is_one_of(bent, rights), (primes, k, a, bent))

    def test_bent_papers(self):
        for primes, k, a in (([2], 1, 1), ([3, 5], 2, 4), ([3, 5], 2, 2), ([2, 3, 7], 2, 1)):
            papers = papers_of(primes)
            told = roots_of(papers, k, a)
            for bent in bends(papers):
                right = are_right_papers(bent) and is_one_of(told, told_roots_of([paper[0] for paper in bent], k, a))
                self.assertIs(shows_roots_of(bent, k, a, told), right, (bent, k, a))

    def test_wrong_papers(self):
        for primes, k, a in (([2], 1, 1), ([3, 5], 2, 4), ([3, 5], 2, 2), ([2, 3, 5, 7, 11], 2, 1)):
            papers = papers_of(primes)
            told = roots_of(papers, k, a)
            self.assertIs(shows_roots_of(papers, k, a, told), True)
            for wrong in wrong_papers(papers):
                self.assertIs(shows_roots_of(wrong, k, a, told), False, wrong)
        six = papers_of([2, 3, 5, 7, 11, 13])
        found = [x for x in range(30030) if x * x % 30030 == 1]
        rows = (("turned", 1, 1),) + tuple(("turned", 1, p - 1) for p in (3, 5, 7, 11, 13))
        self.assertIs(shows_roots_of(six, 2, 1, (found, ("by", rows))), False)
        found = [x for x in range(2310) if x * x % 2310 == 1]
        self.assertIs(shows_roots_of(six[:5], 2, 1, (found, ("by", rows[:5]))), True)
        # Sixteen roots by primes that fall, or of which one stands twice, are told as if that were let.
        self.assertIs(shows_roots_of(six[:5][::-1], 2, 1, (found, ("by", rows[:5][::-1]))), False)
        two = ([1, 2], ("by", (("turned", 1, 2), ("turned", 1, 2))))
        self.assertIs(shows_roots_of(six[1:2] * 2, 2, 1, two), False)
        # By no primes all numbers are alike, but of none nothing is told.
        self.assertIs(shows_roots_of([], 2, 1, ([0], ("by", ()))), False)

    def test_rows_in_another_order(self):
        papers = papers_of([3, 5, 7])
        found, (word, rows) = roots_of(papers, 2, 4)
        for other in itertools.permutations(rows):
            self.assertIs(shows_roots_of(papers, 2, 4, (found, (word, other))), other == rows)
        for other in (rows[:2], rows + rows[:1], rows[:1] * 3, ()):
            self.assertIs(shows_roots_of(papers, 2, 4, (found, (word, other))), False)

    def test_roots_left_out_or_told_otherwise(self):
        papers = papers_of([5, 7])
        found, shown = roots_of(papers, 2, 4)
        self.assertEqual(len(found), 4)
        for wrong in (found[:3], found[1:], found[::-1], found[:1] + found[:3], found + [found[3] + 35], found[:1] * 4,
                      found[:3] + [found[3] + 35], [found[3] - 35] + found[:3], tuple(found), [], None, [0, 1, 2, 3]):
            self.assertIs(shows_roots_of(papers, 2, 4, (wrong, shown)), False, wrong)

    def test_told_by_other_primes_or_of_others(self):
        papers = papers_of([5, 7])
        for k, a in ((2, 4), (2, 0), (1, 4), (3, 1), (2, 11), (2, 3)):
            told = roots_of(papers, k, a)
            for other_k, other_a in ((2, 4), (2, 9), (2, 0), (1, 4), (3, 1), (4, 1), (2, 11), (2, 3)):
                right = is_one_of(told, told_roots_of([5, 7], other_k, other_a))
                self.assertIs(shows_roots_of(papers, other_k, other_a, told), right)
            for primes in ([5], [7], [5, 11], [3, 7], [2, 5, 7], [5, 7, 11]):
                right = is_one_of(told, told_roots_of(primes, k, a))
                self.assertIs(shows_roots_of(papers_of(primes), k, a, told), right)

    def test_great_primes(self):
        papers = papers_of(sorted(GREAT_PRIMES[:5]))
        with soon():
            for k in (1, 2, 3, 5, 10 ** 9 - 1):
                for a in (0, 1, 4, 2 ** 30, SIXTY, -SIXTY):
                    told = roots_of(papers, k, a)
                    self.assertIs(shows_roots_of(papers, k, a, told), True)
                    self.assertIs(shows_roots_of(papers[1:], k, a, told), False)
                    if told[1][0] == "by":
                        self.assertIs(shows_roots_of(papers, k, a + 1, told), False)
            whole = math.prod(paper[0] for paper in PAPERS_ABOVE)
            rows = tuple(("turned", 2, paper[0] - 1) for paper in PAPERS_ABOVE)
            primes = [paper[0] for paper in PAPERS_ABOVE]
            found = sorted(alike(primes, signs) for signs in itertools.product((2, -2), repeat=3))
            self.assertTrue(all(pow(x, 2, whole) == 4 for x in found))
            self.assertIs(shows_roots_of(list(PAPERS_ABOVE), 2, 4 + whole * 10 ** 9, (found, ("by", rows))), True)
            self.assertIs(shows_roots_of(list(PAPERS_ABOVE), 2, 5, (found, ("by", rows))), False)

    def test_four_hundred_and_more(self):
        with soon():
            for primes, k in (([11, 41], 40), ([2, 11, 41], 40), ([401], 400)):
                told = roots_of(papers_of(primes), k, 1)
                self.assertEqual(len(told[0]), 400)
                self.assertIs(shows_roots_of(papers_of(primes), k, 1, told), True)
            # All of it is right, but it isn't told, as there are too many in all.
            for primes, k in (([7, 71], 70 * 3), ([2, 409], 408), ([3, 211], 210), ([419], 418)):
                papers = papers_of(primes)
                found = [x for x in range(math.prod(primes)) if all(pow(x, k, p) == 1 for p in primes)]
                self.assertTrue(400 < len(found) < 500)
                rows = tuple(("turned", 1, paper[1]) for paper in papers)
                self.assertIs(shows_roots_of(papers, k, 1, (found, ("by", rows))), False)

    def test_every_kind(self):
        papers = papers_of([3, 5])
        told = roots_of(papers, 2, 4)
        for thing in every_kind():
            self.assertIs(shows_roots_of(papers, 2, 4, thing), False)
            self.assertIs(shows_roots_of(papers, 2, 4, (thing, told[1])), False)
            self.assertIs(shows_roots_of(papers, 2, 4, (told[0], thing)), False)
            self.assertIs(shows_roots_of(papers, 2, 4, (told[0], ("by", thing))), False)
            self.assertIs(shows_roots_of(papers, 2, 4, (told[0], ("by", (thing, thing)))), False)
            self.assertIs(shows_roots_of(papers, 2, 2, ([], ("none", thing, 1, 2))), is_one_of(thing, [0]))
            self.assertIs(shows_roots_of(papers, 2, 2, ([], (thing, 0, 1, 2))), False)
            self.assertIs(shows_roots_of(thing, 2, 4, told), False)
            self.assertIs(shows_roots_of([thing], 2, 4, told), False)
            self.assertIs(shows_roots_of(papers[:1] + [thing], 2, 4, told), False)

    def test_soon(self):
        with soon():
            for papers in (list(PAPERS_ABOVE), papers_of(sorted(GREAT_PRIMES[:5]))):
                for number in GREAT:
                    for k in (1, 2, 10 ** 9):
                        for thing in (([number], ("by", (("turned", number, number),) * len(papers))),
                                      ([], ("none", number, number, number)), ([], ("none", 0, number, number)),
                                      ([number] * 400, ("by", (("turned", number, number),) * len(papers)))):
                            self.assertIs(shows_roots_of(papers, k, number + 1, thing), False)

    def test_an_order_somewhat_beyond_the_bounds(self):
        for primes in ([2], [3, 5], [2, 7, 13]):
            papers = papers_of(primes)
            for k in (0, -1, -2, -5, 10 ** 9 + 1, 2 * 10 ** 9):
                for a in range(-1, 8):
                    told = roots_of(papers, k, a)
                    self.assertIs(shows_roots_of(papers, k, a, told), True, (primes, k, a, told))
                    for bent in bends(told):
                        self.assertIn(shows_roots_of(papers, k, a, bent), (True, False))

    def test_nothing_is_changed(self):
        papers = papers_of([3, 5])
        told = roots_of(papers, 2, 4)
        before = copy.deepcopy((papers, told))
        shows_roots_of(papers, 2, 4, told)
        shows_roots_of(papers, 2, 5, told)
        self.assertEqual((papers, told), before)


class ShowsWhichOf(unittest.TestCase):

    def test_what_is_told_and_whatever_else_is_let(self):
        for primes in SOME + [[5, 7, 13], [3, 5, 7, 11, 13]]:
            papers = papers_of(primes)
            for b in range(-2, 12):
                for a in range(-2, 30, 1 if len(primes) < 3 else 3):
                    for told in told_which_of(primes, b, a):
                        self.assertIs(shows_which_of(papers, b, a, told), True, (primes, b, a, told))

    def test_any_two_that_are_apart(self):
        primes = [3, 5, 7, 11, 13]
        papers = papers_of(primes)
        b = alike(primes, [paper[1] for paper in papers])
        seen = 0
        for ys in itertools.product((0, 1), (1, 2), (0, 3), (0, 5), (0, 8)):
            a = alike(primes, [paper[1] ** y for paper, y in zip(papers, ys)])
            rights = told_which_of(primes, b, a)
            seen += len(rights) > 1
            places = [(p - 1, y) for p, y in zip(primes, ys)]
            for i in range(5):
                for j in range(5):
                    told = (None, ("apart", i, j, places[i], places[j]))
                    self.assertIs(shows_which_of(papers, b, a, told), is_one_of(told, rights), told)
        self.assertGreater(seen, 10)

    def test_apart_whatever_there_is_by_other_primes(self):
        # By 5 and 7 it is apart; by 3 it is no power, or by 11 behind them.
        for primes, bs, rests, i in (([3, 5, 7], [1, 3, 3], [2, 1, 6], 1), ([5, 7, 11], [3, 3, 1], [1, 6, 2], 0)):
            papers = papers_of(primes)
            b, a = alike(primes, bs), alike(primes, rests)
            self.assertEqual(which_of(papers, b, a)[1][0], "none")
            told = (None, ("apart", i, i + 1, (4, 0), (6, 3)))
            self.assertIs(shows_which_of(papers, b, a, told), True)
            self.assertIs(shows_which_of(papers, b, a, (None, ("apart", i, i + 1, (4, 0), (6, 2)))), False)
            self.assertIs(shows_which_of(papers, b, a, (None, ("apart", i + 1, i, (6, 3), (4, 0)))), False)

    def test_nought_by_any_prime(self):
        # By 5 and 7 it is apart, by 11 none, but 13 divides a or b: nothing is told.
        primes = [5, 7, 11, 13]
        papers = papers_of(primes)
        for bs, rests in (([3, 3, 1, 0], [1, 6, 2, 1]), ([3, 3, 1, 1], [1, 6, 2, 0]), ([3, 3, 1, 0], [1, 6, 2, 0])):
            b, a = alike(primes, bs), alike(primes, rests)
            for told in ((None, ("apart", 0, 1, (4, 0), (6, 3))), (None, ("none", 2, 1, 2)), (None, ("none", 3, 1, 0))):
                self.assertIs(shows_which_of(papers, b, a, told), False)
                without = told[1][1] < 3 and shows_which_of(papers[:3], b, a, told)
                self.assertIs(without, told[1][1] < 3)

    def test_bent_at_each_place(self):
        for primes, b, a in (([2], 1, 1), ([7], 3, 5), ([7], 2, 3), ([5, 7], 3, 27), ([5, 7], 3, 3 ** 11),
                             ([5, 7], 3, 6),
                             ([5, 7], 2, 3), ([5, 7, 13], 3, 27), ([3, 5, 7, 11, 13], 2, 2 ** 17), ([5, 7], 1, 1),
                             ([3, 5, 7, 11, 13], 2, alike([3, 5, 7, 11, 13], [2, 4, 1, 8, 64]))):
            papers = papers_of(primes)
            told = which_of(papers, b, a)
            rights = told_which_of(primes, b, a)
            self.assertTrue(is_one_of(told, rights))
            for bent in bends(told):
                self.assertIs(shows_which_of(papers, b, a, bent), is_one_of(bent, rights), (primes, b, a, bent))

    def test_bent_papers(self):
        for primes, b, a in (([2], 1, 1), ([5, 7], 3, 27), ([5, 7], 3, 6), ([5, 7], 2, 3)):
            papers = papers_of(primes)
            told = which_of(papers, b, a)
            for bent in bends(papers):
                right = are_right_papers(bent) and is_one_of(told, told_which_of([paper[0] for paper in bent], b, a))
                self.assertIs(shows_which_of(bent, b, a, told), right, (bent, b, a))

    def test_wrong_papers(self):
        for primes, b, a in (([2], 1, 1), ([5, 7], 3, 27), ([5, 7], 3, 6), ([5, 7], 2, 3), ([2, 3, 5, 7, 11], 17, 17)):
            papers = papers_of(primes)
            told = which_of(papers, b, a)
            self.assertIs(shows_which_of(papers, b, a, told), True)
            for wrong in wrong_papers(papers):
                self.assertIs(shows_which_of(wrong, b, a, told), False, wrong)
        six = papers_of([2, 3, 5, 7, 11, 13])
        places = tuple((1, 0) for paper in six)
        self.assertIs(shows_which_of(six, 1, 1, (0, ("by", places))), False)
        self.assertIs(shows_which_of(six[:5], 1, 1, (0, ("by", places[:5]))), True)
        self.assertIs(shows_which_of(six[:5][::-1], 1, 1, (0, ("by", places[:5]))), False)
        self.assertIs(shows_which_of(six[:1] * 2, 1, 1, (0, ("by", places[:2]))), False)
        self.assertIs(shows_which_of([], 1, 1, (0, ("by", ()))), False)

    def test_not_the_least(self):
        papers = papers_of([5, 7])
        shown = ("by", ((4, 3), (6, 5)))
        for x in (11, -1, 23, 5, 3, 12 * 10 ** 50 + 11):
            self.assertIs(shows_which_of(papers, 3, 3 ** 11, (x, shown)), x == 11)
        # Places that are right by each prime but apart are no answer, whatever number stands ahead of them.
        for x in (None, 0, 1, 2, 3, 4, 9, "apart"):
            self.assertIs(shows_which_of(papers, 3, 6, (x, ("by", ((4, 0), (6, 3))))), False)
        for x in (None, 0, 3):
            self.assertIs(shows_which_of(papers, 3, 27, (x, ("apart", 0, 1, (4, 3), (6, 3)))), False)

    def test_other_full_numbers(self):
        for one, other in itertools.product(other_papers(5), other_papers(7)):
            for a in (27, 6, 1):
                self.assertIs(shows_which_of([one, other], 3, a, which_of([one, other], 3, a)), True)

    def test_a_great_prime_in_an_order(self):
        papers = papers_of([2, 71850239, 999999929]) + list(PAPERS_ABOVE[:2])
        primes = [paper[0] for paper in papers]
        whole = math.prod(primes)
        b = alike(primes, [paper[1] for paper in papers])
        t = math.lcm(*[p - 1 for p in primes])
        with soon():
            for x in (0, 1, SIXTY % t, t - 1):
                told = (x, ("by", tuple((p - 1, x % (p - 1)) for p in primes)))
                self.assertIs(shows_which_of(papers, b, pow(b, x, whole), told), True)
                self.assertIs(shows_which_of(papers, b, pow(b, x + 1, whole), told), False)
                self.assertIs(shows_which_of(papers, b, pow(b, x, whole), (x + t, told[1])), False)
            a = alike(primes, [1, papers[1][1], 1, 1, 1])
            told = (None, ("apart", 1, 2, (primes[1] - 1, 1), (primes[2] - 1, 0)))
            self.assertIs(shows_which_of(papers, b, a, told), True)
            self.assertIs(shows_which_of(papers, b, a, (None, ("apart", 2, 3) + told[1][3:])), False)
            self.assertIs(shows_which_of(papers, b * b, a, (None, ("none", 1, 35925119, primes[1] - 1))), True)

    def test_great_primes(self):
        papers = papers_of(sorted(GREAT_PRIMES[2:7]))
        whole = math.prod(paper[0] for paper in papers)
        with soon():
            for b in (2, 17, 10007):
                for a in (1, pow(b, 10 ** 30, whole), 3, 9, -1):
                    told = which_of(papers, b, a)
                    self.assertIs(shows_which_of(papers, b, a, told), True)
                    if told[1][0] == "by":
                        self.assertIs(shows_which_of(papers, b, a * b, told), False)

    def test_every_kind(self):
        papers = papers_of([5, 7])
        told = which_of(papers, 3, 27)
        apart = which_of(papers, 3, 6)[1]
        for thing in every_kind():
            self.assertIs(shows_which_of(papers, 3, 27, thing), False)
            self.assertIs(shows_which_of(papers, 3, 27, (thing, told[1])), False)
            self.assertIs(shows_which_of(papers, 3, 27, (3, thing)), False)
            self.assertIs(shows_which_of(papers, 3, 27, (3, ("by", thing))), False)
            self.assertIs(shows_which_of(papers, 3, 27, (3, ("by", (thing, thing)))), False)
            self.assertIs(shows_which_of(papers, 2, 3, (None, ("none", thing, 3, 6))), is_one_of(thing, [1]))
            self.assertIs(shows_which_of(papers, 3, 6, (None, apart[:1] + (thing,) + apart[2:])), is_one_of(thing, [0]))
            self.assertIs(shows_which_of(papers, 3, 6, (None, apart[:2] + (thing,) + apart[3:])), is_one_of(thing, [1]))
            self.assertIs(shows_which_of(papers, 3, 6, (None, apart[:3] + (thing, thing))), False)
            self.assertIs(shows_which_of(papers, 3, 6, (thing, apart)), thing is None)
            self.assertIs(shows_which_of(thing, 3, 27, told), False)
            self.assertIs(shows_which_of(papers[:1] + [thing], 3, 27, told), False)

    def test_soon(self):
        with soon():
            for papers in (list(PAPERS_ABOVE), papers_of(sorted(GREAT_PRIMES[:5]))):
                for number in GREAT:
                    row = (number, number)
                    for thing in ((number, ("by", (row,) * len(papers))), (None, ("none", number, number, number)),
                                  (None, ("none", 0, number, number)), (None, ("apart", 0, 1, row, row)),
                                  (None, ("apart", number, number, row, row))):
                        self.assertIs(shows_which_of(papers, number, 2, thing), False)

    def test_nothing_is_changed(self):
        papers = papers_of([5, 7])
        for a in (27, 6):
            told = which_of(papers, 3, a)
            before = copy.deepcopy((papers, told))
            shows_which_of(papers, 3, a, told)
            self.assertEqual((papers, told), before)


class ShowsSquares(unittest.TestCase):

    def test_small_numbers(self):
        for n in range(1, 700):
            told = told_squares(n)
            self.assertIs(shows_squares(n, parting_paper(n), told), True, (n, told))
            if n > 1:
                self.assertIs(shows_squares(n - 1, parting_paper(n - 1), told), False)
                self.assertIs(shows_squares(n - 1, parting_paper(n), told), False)
                self.assertIs(shows_squares(n, parting_paper(n - 1), told), False)

    def test_bent_at_each_place(self):
        for n in (1, 2, 3, 4, 5, 9, 12, 18, 21, 25, 50, 63, 65, 325, 1105, 27 * 343):
            told = told_squares(n)
            for bent in bends(told):
                self.assertIs(shows_squares(n, parting_paper(n), bent), is_one_of(bent, [told]), (n, bent))

    def test_pairs_told_otherwise(self):
        parts = parting_paper(325)
        pairs, shown = told_squares(325)
        self.assertEqual(pairs, [(1, 18), (6, 17), (10, 15)])
        for wrong in ([(18, 1), (6, 17), (10, 15)], [(1, 18), (6, 17), (15, 10)], [(-1, 18), (6, 17), (10, 15)],
                      [(-6, 17), (1, 18), (6, 17)], pairs[::-1], pairs[:1] * 3, pairs[:2] + pairs[1:2], pairs[1:],
                      [(1, -18), (6, 17), (10, 15)], [(-18, -1), (6, 17), (10, 15)], [list(pair) for pair in pairs],
                      pairs + [(15, 10)], [(0, 18), (6, 17), (10, 15)], tuple(pairs)):
            self.assertIs(shows_squares(325, parts, (wrong, shown)), False, wrong)
            many = len(wrong)
            self.assertIs(shows_squares(325, parts, (wrong, ("all", many))), False, wrong)

    def test_the_least_three(self):
        # 3 stands there twice, 7, 11 and 19 an odd number of times.
        parting = ((2, 1), (3, 2), (5, 1), (7, 3), (11, 1), (19, 5))
        n = number_of(parting)
        for q in (2, 3, 5, 7, 11, 19, 23, 77, 343):
            self.assertIs(shows_squares(n, parts_of(parting), ([], ("three", q))), q == 7)

    def test_great_numbers(self):
        with soon():
            for parting in (((2, 18), (5, 18)), ((2, 59),), ((3, 36),), ((999999937, 2),),
                            ((999999929, 1), (999999937, 1)),
                            ((3, 2), (5, 3), (7, 4), (13, 2), (999999929, 1)), JUST_MOST, ((2, 3),) + JUST_MOST):
                n = number_of(parting)
                pairs = squares_by_product(parting)
                self.assertTrue(n <= 10 ** 18 and all(x * x + y * y == n for x, y in pairs))
                told = (pairs, ("all", len(pairs)))
                self.assertIs(shows_squares(n, parts_of(parting), told), True, parting)
                self.assertIs(shows_squares(n, parts_of(parting), (pairs[1:], ("all", len(pairs) - 1))), False)

    def test_bounds_of_n(self):
        top = ((2, 18), (5, 18))
        self.assertEqual(number_of(top), 10 ** 18)
        for parting in (((2, 60),), ((2, 19), (5, 18)), ((999999937, 2), (2, 1))[::-1], ((5, 26),)):
            n = number_of(parting)
            self.assertGreater(n, 10 ** 18)
            pairs = squares_by_product(parting)
            self.assertIs(shows_squares(n, parts_of(parting), (pairs, ("all", len(pairs)))), False)
        # 10 ** 18 + 1, and powers of a prime with the rest 3 by 4.
        n, parting = 10 ** 18 + 1, ((101, 1), (9901, 1), (999999000001, 1))
        papers = parts_of(parting[:2]) + ((paper_above(999999000001, factors(999999000000)), 1),)
        pairs = squares_by_product(parting)
        self.assertTrue(is_right_parting_paper(n, papers) and len(pairs) == 4)
        self.assertIs(shows_squares(n, papers, (pairs, ("all", 4))), False)
        for parting in (((3, 39),), ((7, 23),)):
            self.assertIs(shows_squares(number_of(parting), parts_of(parting), ([], ("three", parting[0][0]))), False)
        for n in (0, -1, -5, -25, -SIXTY):
            for parts in ((), parting_paper(25), parting_paper(5), parting_paper(1)):
                for told in [([], ("all", 0)), ([(0, 0)], ("all", 1))] + [told_squares(m) for m in (1, 5, 25)]:
                    self.assertIs(shows_squares(n, parts, told), False)

    def test_four_hundred_and_more(self):
        with soon():
            pairs = squares_by_product(JUST_MOST)
            self.assertEqual(len(pairs), 400)
            self.assertIs(shows_squares(number_of(JUST_MOST), parts_of(JUST_MOST), (pairs, ("all", 400))), True)
            pairs = squares_by_product(TOO_MANY)
            self.assertEqual(len(pairs), 405)
            self.assertIs(shows_squares(number_of(TOO_MANY), parts_of(TOO_MANY), (pairs, ("all", 405))), False)
            three = ((3, 1),) + TOO_MANY
            self.assertIs(shows_squares(number_of(three), parts_of(three), ([], ("three", 3))), True)

    def test_a_bent_parting_paper(self):
        for n in (1, 2, 5, 9, 15, 18, 65):
            told = told_squares(n)
            for bent in bends(parting_paper(n)):
                self.assertIs(shows_squares(n, bent, told), is_right_parting_paper(n, bent), (n, bent))
        for full in (2, 3):
            self.assertIs(shows_squares(5, (((5, full, (((2, 1, ()), 2),)), 1),), told_squares(5)), True)
        # 9 told as if it were a prime.
        self.assertIs(shows_squares(9, (((9, 2, (((2, 1, ()), 3),)), 1),), ([(0, 3)], ("all", 1))), False)

    def test_every_kind(self):
        told = told_squares(25)
        parts = parting_paper(25)
        for thing in every_kind():
            self.assertIs(shows_squares(25, parts, thing), False)
            self.assertIs(shows_squares(25, parts, (thing, told[1])), False)
            self.assertIs(shows_squares(25, parts, (told[0], thing)), False)
            self.assertIs(shows_squares(25, parts, ([thing, thing], told[1])), False)
            self.assertIs(shows_squares(25, parts, (told[0], ("all", thing))), is_one_of(thing, [2]))
            self.assertIs(shows_squares(25, thing, told), False)
            self.assertIs(shows_squares(21, parting_paper(21), ([], ("three", thing))), False)

    def test_soon(self):
        with soon():
            for number in GREAT:
                pairs = [(number, number)] * 400
                self.assertIs(shows_squares(number_of(JUST_MOST), parts_of(JUST_MOST), (pairs, ("all", 400))), False)
                self.assertIs(shows_squares(number, ((prime_paper(2), number),), (pairs, ("all", number))), False)
                self.assertIs(shows_squares(4, ((prime_paper(2), number),), ([(0, 2)], ("all", 1))), False)

    def test_nothing_is_changed(self):
        told, parts = told_squares(325), parting_paper(325)
        before = copy.deepcopy((told, parts))
        shows_squares(325, parts, told)
        self.assertEqual((told, parts), before)


if __name__ == "__main__":
    unittest.main()
