"""Point 29: places are put together, a number is taken apart."""

import copy
import math
import unittest

from rootprime.together import put_together, taken_apart
from tests.helper import GREAT, SIXTY, is_one_of, soon

TOP = 10 ** 18


def together_by_hand(places):
    """By the words of 29, going through all numbers."""
    for i, (one, x) in enumerate(places):
        for j, (other, y) in enumerate(places):
            if i < j and (x - y) % math.gcd(one, other):
                return ("apart", i, j)
    whole = math.lcm(*[modulus for modulus, _ in places])
    return (whole, next(x for x in range(whole) if all((x - y) % modulus == 0 for modulus, y in places)))


class PutTogether(unittest.TestCase):

    def look(self, places):
        """What is told where no one can go through all numbers."""
        told = put_together(places)
        whole, number = told
        self.assertIs(type(told), tuple)
        self.assertEqual(whole, math.lcm(*[modulus for modulus, _ in places]))
        self.assertTrue(0 <= number < whole)
        self.assertTrue(all((number - y) % modulus == 0 for modulus, y in places))
        return told

    def test_one_place(self):
        for modulus in (1, 2, 7, 12, TOP):
            for number in (0, 1, 5, -1, -12) + GREAT:
                told = put_together([(modulus, number)])
                self.assertTrue(is_one_of(told, [(modulus, number % modulus)]))

    def test_two_places(self):
        for one in range(1, 13):
            for other in range(1, 13):
                for x in range(-2, one + 1):
                    for y in range(-1, other + 2):
                        places = [(one, x), (other, y)]
                        self.assertTrue(is_one_of(put_together(places), [together_by_hand(places)]), places)

    def test_three_and_four_places(self):
        for moduli in ((4, 6, 10), (2, 3, 5), (6, 6, 6), (1, 8, 12), (9, 6, 4, 2), (5, 10, 15, 20)):
            for first in range(4):
                for second in range(4):
                    for third in range(-1, 4):
                        places = list(zip(moduli, (first, second, third, third + first)))
                        self.assertEqual(put_together(places), together_by_hand(places), places)

    def test_the_first_two_that_are_apart(self):
        for places, right in (
            ([(2, 0), (2, 1)], (0, 1)),
            ([(2, 0), (3, 0), (2, 1), (3, 1)], (0, 2)),
            ([(3, 0), (2, 0), (2, 1), (3, 1)], (0, 3)),
            ([(5, 0), (2, 0), (3, 0), (3, 1), (2, 1)], (1, 4)),
            ([(5, 0), (7, 0), (4, 1), (4, 3), (4, 2)], (2, 3)),
            ([(1, 0)] * 10 + [(2, 0), (2, 1)], (10, 11)),
            ([(6, 1), (10, 2), (15, 2)], (0, 1)),
            ([(6, 1), (10, 3), (15, 2)], (0, 2)),
            ([(6, 1), (10, 3), (15, 4)], (1, 2)),
            ([(2, 1), (4, 3), (8, 7), (16, 7), (8, 5)], (1, 4)),
            ([(4, 0), (4, 2), (4, 0)], (0, 1)),
            ([(4, 0), (4, 4), (4, 2), (4, 1)], (0, 2)),
        ):
            self.assertTrue(is_one_of(put_together(places), [("apart",) + right]), places)

    def test_modulus_one(self):
        self.assertEqual(put_together([(1, SIXTY)]), (1, 0))
        self.assertEqual(put_together([(1, 5)] * 12), (1, 0))
        self.assertEqual(put_together([(1, 5), (7, -1), (1, -SIXTY)]), (7, 6))

    def test_twelve_places(self):
        primes = (2, 3, 5, 7, 11, 13, 17, 19, 23, 29, 31, 37)
        for number in (0, 1, -1) + GREAT:
            places = [(p, number) for p in primes]
            self.assertEqual(self.look(places)[1], number % math.prod(primes))
            self.assertEqual(self.look(places[::-1])[1], number % math.prod(primes))
        self.assertEqual(self.look([(p, at) for at, p in enumerate(primes)])[0], math.prod(primes))

    def test_great_moduli(self):
        moduli = [TOP - at for at in range(12)]
        with soon():
            for number in (0, 1, -1) + GREAT:
                told = self.look([(modulus, number + modulus * at) for at, modulus in enumerate(moduli)])
                self.assertEqual(told[1], number % told[0])
            self.assertEqual(self.look([(TOP, 7), (TOP - 1, 0)])[0], TOP * (TOP - 1))
            self.assertEqual(put_together([(TOP, 7)] * 11 + [(TOP, 8)]), ("apart", 0, 11))
            self.assertEqual(put_together([(TOP, SIXTY), (2, 0)]), ("apart", 0, 1))
            self.look([(TOP, SIXTY), (2 ** 59, SIXTY + 10 ** 40), (5 ** 25, SIXTY)])

    def test_what_is_handed_in_is_not_changed(self):
        for places in ([(4, 1), (6, 3)], [(4, 1), (6, 2)]):
            before = copy.deepcopy(places)
            put_together(places)
            self.assertEqual(places, before)


class TakenApart(unittest.TestCase):

    def test_rests(self):
        moduli = [1, 2, 3, 3, 10, 97, TOP, SIXTY]
        for number in (0, 1, -1, 96, TOP, -TOP) + GREAT:
            told = taken_apart(number, moduli)
            self.assertTrue(is_one_of(told, [[number % modulus for modulus in moduli]]))
            self.assertTrue(all(0 <= rest < modulus for rest, modulus in zip(told, moduli)))
        self.assertEqual(moduli, [1, 2, 3, 3, 10, 97, TOP, SIXTY])

    def test_edges(self):
        self.assertEqual(taken_apart(-1, [1, 2, 5]), [0, 1, 4])
        self.assertEqual(taken_apart(7, []), [])
        self.assertEqual(taken_apart(SIXTY, list(range(1, 401))), [SIXTY % n for n in range(1, 401)])

    def test_there_and_back(self):
        moduli = [4, 6, 15, 49]
        for number in range(0, math.lcm(*moduli), 17):
            places = list(zip(moduli, taken_apart(number, moduli)))
            self.assertEqual(put_together(places), (math.lcm(*moduli), number))

    def test_the_asker_owns_it(self):
        taken_apart(5, [2, 3]).append(9)
        self.assertEqual(taken_apart(5, [2, 3]), [1, 2])


if __name__ == "__main__":
    unittest.main()
