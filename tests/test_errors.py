"""The refusals as the interface tells them [2]."""

import unittest

from rootprime import errors
from rootprime.errors import (
    NoInverse, NoNumber, NoOrder, NoPrime, NoRoot, NoRow, NoText, Nought, PrimeError, TooFar, TooMany,
)

ALL = (NoNumber, Nought, NoOrder, TooFar, NoPrime, NoInverse, NoRoot, TooMany, NoText, NoRow)


class Errors(unittest.TestCase):

    def test_each_is_under_prime_error_and_value_error(self):
        self.assertTrue(issubclass(PrimeError, ValueError))
        for refusal in ALL:
            self.assertTrue(issubclass(refusal, PrimeError), refusal)
            self.assertIsNot(refusal, PrimeError)

    def test_none_is_under_another_one(self):
        for one in ALL:
            for other in ALL:
                self.assertEqual(issubclass(one, other), one is other, (one, other))

    def test_all_are_here_and_no_others(self):
        told = [thing for thing in vars(errors).values() if isinstance(thing, type)]
        self.assertEqual(set(told), set(ALL) | {PrimeError})

    def test_made_without_anything(self):
        for refusal in (NoNumber, Nought, NoOrder, NoRow):
            with self.assertRaises(refusal):
                raise refusal()

    def test_fields(self):
        made = [
            (TooFar(5), {"part": 5}), (NoPrime(6), {"divisor": 6}), (NoInverse(7), {"divisor": 7}),
            (NoRoot(8), {"rest": 8}), (TooMany(9), {"many": 9}), (NoText(10, 11), {"line": 10, "word": 11}),
        ]
        for refusal, fields in made:
            self.assertEqual(vars(refusal), fields)

    def test_fields_by_name(self):
        self.assertEqual(TooFar(part=1).part, 1)
        self.assertEqual(NoPrime(divisor=2).divisor, 2)
        self.assertEqual(NoInverse(divisor=3).divisor, 3)
        self.assertEqual(NoRoot(rest=4).rest, 4)
        self.assertEqual(TooMany(many=5).many, 5)
        self.assertEqual(NoText(line=6, word=7).line, 6)
        self.assertEqual(NoText(line=6, word=7).word, 7)

    def test_taken_by_prime_error_and_by_value_error(self):
        for refusal in (NoNumber(), Nought(), NoOrder(), NoRow(), TooFar(1), NoPrime(2), NoInverse(3), NoRoot(4),
                        TooMany(5), NoText(6, 7)):
            for wide in (PrimeError, ValueError):
                with self.assertRaises(wide) as told:
                    raise refusal
                self.assertIs(told.exception, refusal)


if __name__ == "__main__":
    unittest.main()
