"""Points 17 to 19: orders, as they are told."""

import math
import unittest

from rootprime.errors import NoOrder, Nought
from rootprime.lowchecks import is_order_paper
from rootprime.orders import of_order, order, order_from, orders_by
from rootprime.parting import parted, primes_to
from rootprime.primepapers import parting_paper, prime_paper
from tests.helper import SIXTY, is_plain, is_prime, is_right_order_paper, order_by_hand, soon

PRIMES = [n for n in range(2, 130) if is_prime(n)]
GREAT_PRIMES = (71850239, 998244353, 999999929, 999999937)
TWO = (2, 1, ())
THREE = (3, 2, ((TWO, 1),))


class OrderFrom(unittest.TestCase):

    def look(self, n, a, parts, right):
        told = order_from(n, a, parts)
        self.assertTrue(is_right_order_paper(n, a, told), (n, a))
        self.assertIs(is_order_paper(n, a, told), True)
        self.assertTrue(is_plain(told))
        self.assertEqual(told[0], right, (n, a))
        papers = [row[0] for row in parts]
        for row in told[1]:
            self.assertIn(row[0], papers)

    def test_written_out(self):
        self.assertEqual(order_from(7, 3, ((TWO, 1), (THREE, 1))), (6, ((TWO, 1, 6), (THREE, 1, 2))))
        self.assertEqual(order_from(7, 1, ()), (1, ()))
        self.assertEqual(order_from(7, 8, ((TWO, 5),)), (1, ()))
        self.assertEqual(order_from(7, 2, ((TWO, 1), (THREE, 4))), (3, ((THREE, 1, 2),)))
        self.assertEqual(order_from(15, 2, ((TWO, 3),)), (4, ((TWO, 2, 4),)))

    def test_the_order_its_multiples_and_others(self):
        for n in range(2, 32):
            for a in range(-3, n + 3):
                right = order_by_hand(n, a)
                for e in range(1, 2 * n + 1):
                    if right is not None and e % right == 0:
                        self.look(n, a, parting_paper(e), right)
                    else:
                        with self.assertRaises(NoOrder):
                            order_from(n, a, parting_paper(e))

    def test_a_divisor_in_common(self):
        for n, a in ((6, 2), (6, 0), (2, 0), (2, 4), (9, -6), (SIXTY, 9)):
            for parts in ((), ((TWO, 1),), parting_paper(360), ((TWO, SIXTY), (THREE, SIXTY))):
                with self.assertRaises(NoOrder):
                    order_from(n, a, parts)

    def test_of_nothing(self):
        for n in (2, 3, 10, SIXTY):
            for a in (1, 1 + n, 1 - n):
                self.assertEqual(order_from(n, a, ()), (1, ()))
            for a in (0, 2 + 2 * n, -n):
                with self.assertRaises(NoOrder):
                    order_from(n, a, ())

    def test_great_numbers(self):
        with soon():
            self.look(2 ** 190, 3, ((TWO, 190),), 2 ** 188)
            self.look(2 ** 190, -1, ((TWO, 190),), 2)
            self.look(3 ** 120, 2, ((TWO, 3), (THREE, 125)), 2 * 3 ** 119)
            n = 3 * 2 ** 189 + 1
            for a in (2, 3, 5, -5, SIXTY, -SIXTY):
                told = order_from(n, a, ((TWO, 189), (THREE, 1)))
                self.assertTrue(is_right_order_paper(n, a, told))
                self.look(n, a, ((TWO, 400), (THREE, 300), (prime_paper(999999937), 7)), told[0])
            with self.assertRaises(NoOrder):
                order_from(n, 5, ((TWO, 180), (THREE, 200)))

    def test_a_many_of_sixty_figures(self):
        with soon():
            self.look(7, 3, ((TWO, SIXTY), (THREE, 1)), 6)
            self.look(7, 3, ((TWO, SIXTY), (THREE, SIXTY), (prime_paper(5), SIXTY)), 6)
            self.look(2, 1, ((TWO, SIXTY),), 1)
            self.look(4, 3, ((TWO, SIXTY),), 2)
            self.look(5, 2, ((TWO, SIXTY),), 4)
            self.look(3 * 2 ** 189 + 1, 10, ((TWO, SIXTY), (THREE, SIXTY)), 3 * 2 ** 189)
            with self.assertRaises(NoOrder):
                order_from(7, 3, ((TWO, SIXTY), (prime_paper(5), SIXTY)))

    def test_four_hundred_primes(self):
        papers = [prime_paper(p) for p in primes_to(3000)[:400]]
        n = 3 * 2 ** 189 + 1
        with soon(60):
            right = order_from(n, 5, ((TWO, 189), (THREE, 1)))
            for many in (189, SIXTY):
                self.assertEqual(order_from(n, 5, tuple((paper, many) for paper in papers)), right)

    def test_by_many_primes_at_once(self):
        n = math.prod(primes_to(130))
        e = math.lcm(*[p - 1 for p in primes_to(130)])
        primes = [p for p in primes_to(130) if e % p == 0]
        parts = tuple((prime_paper(p), 9) for p in primes)
        for a in (1, -1, 131, 137, 149, 151 ** 20, 127 * 131):
            if math.gcd(a, n) == 1:
                right = math.lcm(*[order_by_hand(p, a) for p in primes_to(130)])
                self.look(n, a, parts, right)
            else:
                with self.assertRaises(NoOrder):
                    order_from(n, a, parts)


class Order(unittest.TestCase):

    def look(self, paper, a, right):
        told = order(paper, a)
        p = paper[0]
        self.assertTrue(is_right_order_paper(p, a, told), (p, a))
        self.assertIs(is_order_paper(p, a, told), True)
        self.assertTrue(is_plain(told))
        self.assertEqual(told[0], right, (p, a))
        papers = [row[0] for row in paper[2]]
        self.assertTrue(all(row[0] in papers for row in told[1]))

    def test_small_ones(self):
        for p in PRIMES:
            paper = prime_paper(p)
            for a in range(-p - 2, 2 * p + 2):
                if a % p:
                    self.look(paper, a, order_by_hand(p, a))
                else:
                    with self.assertRaises(Nought):
                        order(paper, a)

    def test_written_out(self):
        self.assertEqual(order(prime_paper(2), 1), (1, ()))
        self.assertEqual(order(prime_paper(2), -SIXTY), (1, ()))
        self.assertEqual(order(prime_paper(7), 3), (6, ((TWO, 1, 6), (THREE, 1, 2))))
        self.assertEqual(order(prime_paper(7), -1), (2, ((TWO, 1, 6),)))

    def test_great_ones(self):
        with soon():
            for p in GREAT_PRIMES:
                paper = prime_paper(p)
                self.look(paper, paper[1], p - 1)
                self.look(paper, p - 1, 2)
                self.look(paper, 1, 1)
                for a in (2, 3, -7, SIXTY, -SIXTY, 10 ** 59):
                    right = min(d for d in [x for x, _ in orders_by(paper)] if pow(a, d, p) == 1)
                    self.look(paper, a, right)
                for a in (0, p, -p, p * 10 ** 50):
                    with self.assertRaises(Nought):
                        order(paper, a)

    def test_nothing_is_refused_twice(self):
        # The refusal of a nought is Nought alone, though no power of it is 1 either.
        with self.assertRaises(Nought) as told:
            order(prime_paper(5), 10)
        self.assertNotIsInstance(told.exception, NoOrder)


class OrdersBy(unittest.TestCase):

    def test_small_ones(self):
        for p in PRIMES:
            paper = prime_paper(p)
            orders = [order_by_hand(p, a) for a in range(1, p)]
            right = [(d, orders.count(d)) for d in range(1, p) if (p - 1) % d == 0]
            told = orders_by(paper)
            self.assertEqual(told, right, p)
            self.assertIs(type(told), list)
            self.assertTrue(all(type(row) is tuple for row in told))
            self.assertTrue(is_plain(told))

    def test_written_out(self):
        self.assertEqual(orders_by(prime_paper(2)), [(1, 1)])
        self.assertEqual(orders_by(prime_paper(3)), [(1, 1), (2, 1)])
        self.assertEqual(orders_by(prime_paper(13)), [(1, 1), (2, 1), (3, 2), (4, 2), (6, 2), (12, 4)])

    def test_great_ones(self):
        with soon():
            # One below 367567201 has 1152 numbers that divide it, the most of these.
            for p, many in ((367567201, 1152), (998244353, 96), (999999937, None), (71850239, 4)):
                told = orders_by(prime_paper(p))
                ds = [d for d, _ in told]
                self.assertEqual(ds, sorted(set(ds)))
                self.assertTrue(all((p - 1) % d == 0 for d in ds))
                self.assertEqual(sum(row[1] for row in told), p - 1)
                self.assertTrue(all(row[1] >= 1 for row in told))
                if many is not None:
                    self.assertEqual(len(told), many)
                self.assertEqual(told[0], (1, 1))
                self.assertEqual(told[1], (2, 1))

    def test_the_asker_owns_it(self):
        paper = prime_paper(7)
        told = orders_by(paper)
        told.clear()
        self.assertEqual(orders_by(paper), [(1, 1), (2, 1), (3, 2), (6, 2)])
        self.assertEqual(paper, prime_paper(7))


class OfOrder(unittest.TestCase):

    def test_small_ones(self):
        for p in PRIMES:
            paper = prime_paper(p)
            for d in range(-3, 2 * p + 2):
                if d >= 1 and (p - 1) % d == 0:
                    told = of_order(paper, d)
                    self.assertTrue(1 <= told <= p - 1, (p, d))
                    self.assertEqual(order_by_hand(p, told), d)
                    self.assertIs(type(told), int)
                else:
                    with self.assertRaises(NoOrder):
                        of_order(paper, d)

    def test_great_ones(self):
        with soon():
            for p in GREAT_PRIMES:
                paper = prime_paper(p)
                for d, _ in orders_by(paper):
                    told = of_order(paper, d)
                    self.assertTrue(1 <= told <= p - 1)
                    self.assertEqual(pow(told, d, p), 1)
                    self.assertTrue(all(pow(told, d // q, p) != 1 for q, _ in parted(d)))
                for d in (0, -1, -2, 1 - p, p, 2 * (p - 1), SIXTY, -SIXTY):
                    with self.assertRaises(NoOrder):
                        of_order(paper, d)


if __name__ == "__main__":
    unittest.main()
