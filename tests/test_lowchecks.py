"""Points 13 to 15 and 17: the readers of papers let by what is right, and nothing else."""

import copy
import unittest

from rootprime.lowchecks import is_order, is_order_paper, is_parting_paper, is_prime_paper
from rootprime.orders import order
from rootprime.parting import parted
from rootprime.primepapers import parting_paper, prime_paper
from tests.helper import (
    SIXTY, bends, deep, every_kind, is_prime, is_right_order_paper, is_right_parting_paper, is_right_prime_paper,
    order_by_hand, soon,
)

TWO = (2, 1, ())
THREE = (3, 2, ((TWO, 1),))
FIVE = (5, 2, ((TWO, 2),))
SEVEN = (7, 3, ((TWO, 1), (THREE, 1)))
# A chain in which each prime is one more than twice the one ahead of it.
ELEVEN = (11, 2, ((TWO, 1), (FIVE, 1)))
TWENTY_THREE = (23, 5, ((TWO, 1), (ELEVEN, 1)))
FORTY_SEVEN = (47, 5, ((TWO, 1), (TWENTY_THREE, 1)))
# Primes above 10 ** 9, with the partings of what is one below them.
ABOVE = (
    (3 * 2 ** 189 + 1, ((2, 189), (3, 1))),
    (2 ** 61 - 1, ((2, 1), (3, 2), (5, 2), (7, 1), (11, 1), (13, 1), (31, 1), (41, 1), (61, 1), (151, 1), (331, 1),
                   (1321, 1))),
    (10 ** 9 + 7, ((2, 1), (500000003, 1))),
)
PRIMES = [n for n in range(2, 200) if is_prime(n)]


def made_parts(parting):
    return tuple((prime_paper(prime), many) for prime, many in parting)


def fulls_by_hand(p, parting, many):
    """The first full numbers of p."""
    found, number = [], 1
    while len(found) < many:
        if all(pow(number, (p - 1) // prime, p) != 1 for prime, _ in parting):
            found.append(number)
        number += 1
    return found


def with_paper(bent, prime, paper):
    """The paper with another paper in the stead of each one of that prime, however deep."""
    if paper[0] == prime:
        return bent
    return paper[:2] + (tuple((with_paper(bent, prime, within), many) for within, many in paper[2]),)


class IsPrimePaper(unittest.TestCase):

    def test_written_out(self):
        for paper in (TWO, THREE, FIVE, SEVEN, ELEVEN, TWENTY_THREE, FORTY_SEVEN):
            self.assertIs(is_prime_paper(paper), True, paper)

    def test_what_is_told(self):
        with soon():
            for p in PRIMES + [10007, 71850239, 998244353, 999999929, 999999937]:
                self.assertIs(is_prime_paper(prime_paper(p)), True, p)

    def test_each_full_number_and_no_other(self):
        for p in PRIMES[:20]:
            parts = parting_paper(p - 1)
            for full in range(-2, p + 3):
                right = 1 <= full < p and order_by_hand(p, full) == p - 1
                self.assertIs(is_prime_paper((p, full, parts)), right, (p, full))

    def test_no_paper_of_what_is_no_prime(self):
        for n in [n for n in range(-3, 200) if not is_prime(n)] + [341, 561, 1105, 1729]:
            parts = parting_paper(n - 1) if n > 1 else ()
            for full in range(-2, n + 2):
                self.assertIs(is_prime_paper((n, full, parts)), False, (n, full))

    def test_above_the_bound(self):
        with soon():
            for p, parting in ABOVE:
                parts = made_parts(parting)
                for full in fulls_by_hand(p, parting, 3):
                    self.assertIs(is_prime_paper((p, full, parts)), True, p)
                    self.assertIs(is_prime_paper((p, full + p, parts)), False)
                    self.assertIs(is_prime_paper((p, full - p, parts)), False)
                    self.assertIs(is_prime_paper((p, full * full % p, parts)), False)
                    self.assertIs(is_prime_paper((p + 2, full, parts)), False)
                    self.assertIs(is_prime_paper((p, full, parts[1:])), False)
                    self.assertIs(is_prime_paper((p, full, parts[::-1])), False)

    def test_another_full_number_within(self):
        self.assertIs(is_prime_paper((5, 3, ((TWO, 2),))), True)
        self.assertIs(is_prime_paper((11, 8, ((TWO, 1), ((5, 3, ((TWO, 2),)), 1)))), True)
        self.assertIs(is_prime_paper(with_paper((5, 3, ((TWO, 2),)), 5, FORTY_SEVEN)), True)

    def test_bent_at_each_place(self):
        for paper in (TWO, THREE, FIVE, SEVEN, FORTY_SEVEN, prime_paper(211)):
            let_by = many = 0
            with soon(30):
                for bent in bends(paper):
                    right = is_right_prime_paper(bent)
                    self.assertIs(is_prime_paper(bent), right, bent)
                    let_by += right
                    many += 1
            self.assertGreater(many, 30)
            self.assertLess(let_by, many // 10)

    def assert_wrong_at_each_depth(self, bent, prime):
        self.assertIs(is_prime_paper(bent), False, bent)
        for paper in (SEVEN, ELEVEN, TWENTY_THREE, FORTY_SEVEN, prime_paper(211), prime_paper(998244353)):
            outer = with_paper(bent, prime, paper)
            if outer != paper:
                self.assertIs(is_prime_paper(outer), False, outer)

    def test_full(self):
        for full in (0, 1, 4, 5, 6, 7, 8, -2, -3, True, "2", None, (2,), 2.0):
            self.assert_wrong_at_each_depth((5, full, ((TWO, 2),)), 5)
        for full in (0, 2, 3, -1, True, False):
            self.assert_wrong_at_each_depth((2, full, ()), 2)

    def test_p(self):
        for p in (True, False, 0, 1, -2, -3, "2", None, (2,), 2.0):
            for parts in ((), ((TWO, 1),)):
                self.assertIs(is_prime_paper((p, 1, parts)), False)
                self.assertIs(is_prime_paper((3, 2, (((p, 1, parts), 1),))), False)

    def test_the_power_to_p_less_one(self):
        # All else holds of these but that the power to p - 1 is 1.
        self.assertNotEqual(pow(2, 4, 9), 1)
        self.assertIs(is_prime_paper((9, 2, ((TWO, 3),))), False)
        self.assertIs(is_prime_paper((9, 3, ((TWO, 3),))), False)
        self.assertIs(is_prime_paper((65, 2, ((TWO, 6),))), False)

    def test_primes_unlike_and_rising(self):
        self.assert_wrong_at_each_depth((5, 2, ((TWO, 1), (TWO, 1))), 5)
        self.assert_wrong_at_each_depth((7, 3, ((THREE, 1), (TWO, 1))), 7)
        self.assert_wrong_at_each_depth((11, 2, ((FIVE, 1), (TWO, 1))), 11)
        self.assertIs(is_prime_paper((37, 2, ((TWO, 1), (THREE, 2), (TWO, 1)))), False)

    def test_many(self):
        for many in (0, 1, 3, -1, -2, True, False, "2", None, 2.0, (2,), SIXTY, -SIXTY):
            self.assert_wrong_at_each_depth((5, 2, ((TWO, many),)), 5)
        for many in (0, -1, True, False, SIXTY):
            self.assert_wrong_at_each_depth((5, 2, ((TWO, 2), (THREE, many))), 5)
            self.assert_wrong_at_each_depth((7, 3, ((TWO, 1), (THREE, many))), 7)

    def test_the_product(self):
        self.assert_wrong_at_each_depth((5, 2, ()), 5)
        self.assert_wrong_at_each_depth((7, 3, ((TWO, 1),)), 7)
        self.assert_wrong_at_each_depth((7, 3, ((THREE, 1),)), 7)
        self.assert_wrong_at_each_depth((7, 3, ((TWO, 1), (THREE, 1), (FIVE, 1))), 7)
        self.assert_wrong_at_each_depth((7, 3, ((TWO, 1), (FIVE, 1))), 7)
        self.assert_wrong_at_each_depth((2, 1, ((TWO, 1),)), 2)

    def test_tuples_alone(self):
        for bent in ([5, 2, ((TWO, 2),)], (5, 2, [(TWO, 2)]), (5, 2, ([TWO, 2],)), (5, 2, ((list(TWO), 2),)),
                     (5, 2, (((2, 1, []), 2),))):
            self.assert_wrong_at_each_depth(bent, 5)

    def test_lengths(self):
        for bent in ((), (5,), (5, 2), (5, 2, ((TWO, 2),), 0), (5, 2, ((TWO,),)), (5, 2, ((TWO, 2, 4),)),
                     (5, 2, ((),)), (5, 2, (((2, 1), 2),)), (5, 2, (((2, 1, (), ()), 2),))):
            self.assert_wrong_at_each_depth(bent, 5)

    def test_papers_within_that_are_none(self):
        # The tops of these hold: what is within them is no prime.
        four = (4, 3, ((THREE, 1),))
        six = (6, 5, ((FIVE, 1),))
        self.assertIs(is_prime_paper((5, 2, ((four, 1),))), False)
        self.assertIs(is_prime_paper((7, 3, ((six, 1),))), False)
        self.assertIs(is_prime_paper((7, 2, ((six, 1),))), False)
        self.assertIs(is_prime_paper((15, 4, (((14, 3, ((prime_paper(13), 1),)), 1),))), False)
        self.assertIs(is_prime_paper((13, 2, ((THREE, 1), (four, 1)))), False)
        self.assertIs(is_prime_paper((13, 2, (((12, 11, ((ELEVEN, 1),)), 1),))), False)

    def test_a_great_many_is_told_wrong_soon(self):
        with soon():
            for number in (2, 1, 0, -1, 3):
                for many in (SIXTY, 10 ** 59, 10 ** 8, 10 ** 9):
                    self.assertIs(is_prime_paper((5, 2, (((number, 1, ()), many),))), False)
                    self.assertIs(is_prime_paper((3, 2, (((number, 1, ()), many),))), False)
                    self.assertIs(is_prime_paper((3 * 2 ** 189 + 1, 5, (((number, 1, ()), many), (THREE, 1)))), False)
                    self.assertIs(is_prime_paper((SIXTY, 2, ((TWO, 1), ((number, 1, ()), many)))), False)

    def test_every_kind(self):
        with soon():
            for thing in every_kind() + [2.0, b"a", {}, {2: 1}, (2, 1, {}), (2.0, 1, ())]:
                self.assertIs(is_prime_paper(thing), False, thing)
                self.assertIs(is_prime_paper((3, 2, thing)), False, thing)
                self.assertIs(is_prime_paper((3, thing, ((TWO, 1),))), thing == 2 and type(thing) is int, thing)
                self.assertIs(is_prime_paper((3, 2, (thing,))), False, thing)
                self.assertIs(is_prime_paper((3, 2, ((thing, 1),))), False, thing)
                self.assertIs(is_prime_paper((3, 2, ((TWO, thing),))), thing == 1 and type(thing) is int, thing)

    def test_deep_things(self):
        with soon():
            for depth in (33, 100, 300):
                number = SIXTY // 2 ** 190
                paper = (number, 2, deep(2, tuple))
                for _ in range(depth):
                    number = 2 * number + 1
                    paper = (number, 2, ((TWO, 1), (paper, 1)))
                self.assertIs(is_prime_paper(paper), False)
                chain = TWO
                for _ in range(depth):
                    chain = (3, 2, ((chain, 1),))
                self.assertIs(is_prime_paper(chain), False)

    def test_the_deepest_chain(self):
        p = 1122659
        with soon():
            self.assertIs(is_prime_paper(prime_paper(p)), True)
            while p < 71850239:
                p = 2 * p + 1
                self.assertIs(is_prime_paper(prime_paper(p)), True)
            self.assertIs(is_prime_paper(with_paper((2, 1, ((),)), 2, prime_paper(p))), False)


class NothingIsChanged(unittest.TestCase):

    def test_lists_that_are_handed_in(self):
        for thing in ([2, 1, []], (5, 2, [[[2, 1, []], 2]]), [TWO, 1], [[TWO, 1], [THREE, 1]], (6, [[TWO, 1, [6]]])):
            held = copy.deepcopy(thing)
            self.assertIs(is_prime_paper(thing), False)
            self.assertIs(is_parting_paper(6, thing), False)
            self.assertIs(is_order_paper(7, 3, thing), False)
            self.assertEqual(thing, held)


class IsPartingPaper(unittest.TestCase):

    def test_what_is_told(self):
        for n in range(1, 300):
            told = parting_paper(n)
            self.assertIs(is_parting_paper(n, told), True, n)
            for other in (n - 1, n + 1, 2 * n, 0, -n, -1):
                self.assertIs(is_parting_paper(other, told), False, (n, other))

    def test_of_one(self):
        self.assertIs(is_parting_paper(1, ()), True)
        for thing in ([], None, ((TWO, 0),), ((),), (TWO,), 0, 1, "", ((TWO, 1),)):
            self.assertIs(is_parting_paper(1, thing), False)

    def test_below_one(self):
        with soon():
            for n in (0, -1, -2, -6, -SIXTY):
                for thing in every_kind() + [((TWO, 1),), ((TWO, SIXTY),), ((TWO, 1), (THREE, 1)), ((THREE, 1),)]:
                    self.assertIs(is_parting_paper(n, thing), False, (n, thing))

    def test_great_ones(self):
        with soon():
            for n in (999999937, 31607 ** 2, 735134400, 10 ** 9):
                self.assertIs(is_parting_paper(n, parting_paper(n)), True)
            n = 2 ** 100 * 3 ** 50 * 999999937
            told = made_parts(((2, 100), (3, 50), (999999937, 1)))
            self.assertIs(is_parting_paper(n, told), True)
            self.assertIs(is_parting_paper(n + 1, told), False)
            for p, parting in ABOVE:
                full = fulls_by_hand(p, parting, 2)[-1]
                self.assertIs(is_parting_paper(p, (((p, full, made_parts(parting)), 1),)), True)
                self.assertIs(is_parting_paper(2 * p, ((TWO, 1), ((p, full, made_parts(parting)), 1))), True)
                self.assertIs(is_parting_paper(p - 1, made_parts(parting)), True)

    def test_bent_at_each_place(self):
        for n in (1, 2, 12, 35, 49, 77, 360):
            let_by = many = 0
            for bent in bends(parting_paper(n)):
                right = is_right_parting_paper(n, bent)
                self.assertIs(is_parting_paper(n, bent), right, (n, bent))
                let_by += right
                many += 1
            self.assertGreater(many, 12)
            self.assertLess(let_by, many // 10 + 1)

    def test_conditions(self):
        wrong = (
            ((TWO, 1), (TWO, 1), (THREE, 1)), ((THREE, 1), (TWO, 2)), ((TWO, 2), (THREE, 1), (FIVE, 0)),
            ((TWO, 2),), ((TWO, 1), (THREE, 1)), ((TWO, 2), (THREE, True)), ((TWO, 2), (THREE, 1), (FIVE, 1)),
            [(TWO, 2), (THREE, 1)], ((TWO, 2), [THREE, 1]), ((TWO, 2), (list(THREE), 1)), ((TWO, 2), (THREE, "1")),
            (((4, 3, ((THREE, 1),)), 1), (THREE, 1)), ((THREE, 1), ((4, 3, ((THREE, 1),)), 1)),
            ((TWO, 2), (THREE, 1, 1)), ((TWO, 2), (THREE,)), ((TWO, 2), ((3, 1, ((TWO, 1),)), 1)),
            (((12, 11, ((ELEVEN, 1),)), 1),),
        )
        self.assertIs(is_parting_paper(12, ((TWO, 2), (THREE, 1))), True)
        for thing in wrong:
            self.assertIs(is_parting_paper(12, thing), False, thing)

    def test_a_great_many_is_told_wrong_soon(self):
        with soon():
            for n in (1, 2, 12, 2 ** 190, SIXTY):
                for number in (2, 3, 1, 0, -1):
                    for many in (SIXTY, 10 ** 9):
                        self.assertIs(is_parting_paper(n, (((number, 1, ()), many),)), False)
                        self.assertIs(is_parting_paper(n, ((TWO, many), (THREE, many))), False)

    def test_every_kind(self):
        with soon():
            for n in (1, 2, 6, SIXTY):
                for thing in every_kind():
                    self.assertIs(is_parting_paper(n, thing), n == 1 and thing == (), (n, thing))
                    self.assertIs(is_parting_paper(n, (thing,)), False, (n, thing))
                    self.assertIs(is_parting_paper(n, ((thing, 1),)), False, (n, thing))


class IsOrderPaper(unittest.TestCase):

    def test_written_out(self):
        self.assertIs(is_order_paper(7, 1, (1, ())), True)
        self.assertIs(is_order_paper(7, 8, (1, ())), True)
        self.assertIs(is_order_paper(7, -6, (1, ())), True)
        self.assertIs(is_order_paper(7, 6, (2, ((TWO, 1, 6),))), True)
        self.assertIs(is_order_paper(7, -1, (2, ((TWO, 1, 6),))), True)
        self.assertIs(is_order_paper(7, 2, (3, ((THREE, 1, 2),))), True)
        self.assertIs(is_order_paper(7, 3, (6, ((TWO, 1, 6), (THREE, 1, 2)))), True)
        self.assertIs(is_order_paper(15, 2, (4, ((TWO, 2, 4),))), True)
        self.assertIs(is_order_paper(2, 5, (1, ())), True)

    def right_one(self, n, a, e):
        return (e, tuple((prime_paper(q), many, pow(a, e // q, n)) for q, many in parted(e)))

    def test_the_order_and_no_other(self):
        for n in range(2, 40):
            for a in range(-3, n + 3):
                right = order_by_hand(n, a)
                for e in range(1, 2 * n):
                    self.assertIs(is_order_paper(n, a, self.right_one(n, a, e)), e == right, (n, a, e))

    def test_bent_at_each_place(self):
        for n, a, e in ((7, 1, 1), (7, 6, 2), (7, 3, 6), (2, 1, 1), (15, 2, 4), (47, 5, 46), (211, 2, 210), (9, 2, 6)):
            paper = self.right_one(n, a, e)
            self.assertIs(is_order_paper(n, a, paper), True)
            let_by = many = 0
            for bent in bends(paper):
                right = is_right_order_paper(n, a, bent)
                self.assertIs(is_order_paper(n, a, bent), right, (n, a, bent))
                let_by += right
                many += 1
            self.assertGreater(many, 20)
            self.assertLess(let_by, many // 10)

    def test_conditions(self):
        wrong = (
            (6, ((THREE, 1, 2), (TWO, 1, 6))), (6, ((TWO, 1, 6),)), (6, ((THREE, 1, 2),)), (6, ()),
            (6, ((TWO, 1, 1), (THREE, 1, 2))), (6, ((TWO, 1, 6), (THREE, 1, 1))), (6, ((TWO, 1, 5), (THREE, 1, 2))),
            (6, ((TWO, 1, -1), (THREE, 1, 2))), (6, ((TWO, 1, 13), (THREE, 1, 2))), (6, ((TWO, 1), (THREE, 1))),
            (6, ((TWO, True, 6), (THREE, 1, 2))), (6, ((TWO, 1, 6), (THREE, 1, "2"))),
            (6, ((TWO, 1, 6.0), (THREE, 1, 2))), (6, [(TWO, 1, 6), (THREE, 1, 2)]),
            [6, ((TWO, 1, 6), (THREE, 1, 2))], (6, ([TWO, 1, 6], (THREE, 1, 2))), (6, ((TWO, 1, 6), (THREE, 1, 2, 0))),
            (6, ((TWO, 1, 6), (THREE, 1, 2), (FIVE, 0, 3))), (6, ((TWO, 1, 6), ((3, 1, ((TWO, 1),)), 1, 2))),
            (6, (((6, 5, ((FIVE, 1),)), 1, 3),)), (12, ((TWO, 2, 1), (THREE, 1, 4))), (0, ()), (-6, ()), (1, ()),
            (True, ()), (6, ((TWO, 1, 6), (THREE, 1, 2)), ()), (6,), (), ("6", ((TWO, 1, 6), (THREE, 1, 2))),
            (0, ((TWO, 1, 6), (THREE, 1, 2))), (-6, ((TWO, 1, 6), (THREE, 1, 2))), (3, ((THREE, 1, 3),)),
            (2, ((TWO, 1, 3),)), (6, None), (6, 0), (6, "ab"),
        )
        self.assertIs(is_order_paper(7, 3, (6, ((TWO, 1, 6), (THREE, 1, 2)))), True)
        for thing in wrong:
            self.assertIs(is_order_paper(7, 3, thing), False, thing)
        self.assertIs(is_order_paper(7, 1, (True, ())), False)
        # The power to 4 is 1 here, and so is the one to 2.
        self.assertIs(is_order_paper(15, 4, (4, ((TWO, 2, 1),))), False)

    def test_a_divisor_in_common(self):
        for n, a in ((6, 2), (6, 3), (7, 0), (7, 14), (4, 2), (9, 6), (10, -5)):
            for e in range(1, 13):
                self.assertIs(is_order_paper(n, a, self.right_one(n, a, e)), False, (n, a, e))
            self.assertIs(is_order_paper(n, a, (1, ())), False)
            self.assertIs(is_order_paper(n, a, (1, ((TWO, 1, 0),))), False)

    def test_great_ones(self):
        with soon():
            for p, parting in ABOVE:
                full = fulls_by_hand(p, parting, 1)[0]
                rows = tuple((prime_paper(q), many, pow(full, (p - 1) // q, p)) for q, many in parting)
                self.assertIs(is_order_paper(p, full, (p - 1, rows)), True)
                self.assertIs(is_order_paper(p, full + 2 * p, (p - 1, rows)), True)
                self.assertIs(is_order_paper(p, full + 1, (p - 1, rows)), False)
                self.assertIs(is_order_paper(p, full, (p - 1, rows[::-1])), False)
            self.assertIs(is_order_paper(2 ** 190, 3, (2 ** 188, ((TWO, 188, 2 ** 189 + 1),))), True)
            self.assertIs(is_order_paper(2 ** 190, 3, (2 ** 188, ((TWO, 187, 2 ** 189 + 1),))), False)
            self.assertIs(is_order_paper(2 ** 190, 3, (2 ** 189, ((TWO, 189, 1),))), False)

    def test_a_great_many_is_told_wrong_soon(self):
        with soon():
            for number in (2, 1, 0, -1):
                for many in (SIXTY, 10 ** 9):
                    self.assertIs(is_order_paper(7, 6, (2, (((number, 1, ()), many, 6),))), False)
                    self.assertIs(is_order_paper(SIXTY, 2, (SIXTY, (((number, 1, ()), many, 6),))), False)
                    self.assertIs(is_order_paper(SIXTY, 1, (2 ** 190, (((number, 1, ()), many, 6),))), False)

    def test_every_kind(self):
        with soon():
            for thing in every_kind():
                for n, a in ((7, 3), (7, 1), (2, 1), (SIXTY, 2)):
                    self.assertIs(is_order_paper(n, a, thing), False, (n, a, thing))
                    self.assertIs(is_order_paper(n, a, (1, thing)), thing == () and a == 1, (n, a, thing))
                    self.assertIs(is_order_paper(n, a, (1, (thing,))), False, (n, a, thing))
                    self.assertIs(is_order_paper(n, a, (thing, ())), a == 1 and type(thing) is int and thing == 1)
                self.assertIs(is_order_paper(7, 6, (2, ((TWO, 1, thing),))), False, thing)


class IsOrder(unittest.TestCase):

    def test_small_ones(self):
        for p in PRIMES[:15]:
            paper = prime_paper(p)
            for a in range(-p - 1, 2 * p + 2):
                right = order_by_hand(p, a)
                for e in range(-2, 3 * p):
                    self.assertIs(is_order(paper, a, e), e == right, (p, a, e))

    def test_edges(self):
        for p in (2, 3, 7, 47, 999999937):
            paper = prime_paper(p)
            for e in (0, -1, -p, 1 - p, SIXTY, -SIXTY):
                self.assertIs(is_order(paper, paper[1], e), False)
            for a in (0, p, -p, p * 10 ** 50):
                for e in (1, 2, p - 1, p, 0, -1):
                    self.assertIs(is_order(paper, a, e), False)

    def test_parts_and_multiples(self):
        for p in (71850239, 998244353, 999999929, 999999937):
            paper = prime_paper(p)
            for a in (2, 3, -5, paper[1], p - 1, 1, SIXTY, -SIXTY):
                e, rows = order(paper, a)
                self.assertIs(is_order(paper, a, e), True)
                self.assertEqual(pow(a, e, p), 1)
                for row in rows:
                    self.assertIs(is_order(paper, a, e // row[0][0]), False)
                for times in (2, 3, 5, 7, 11, 13, 10 ** 50, p - 1):
                    self.assertIs(is_order(paper, a, e * times), False)


if __name__ == "__main__":
    unittest.main()
