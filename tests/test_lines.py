"""Point 40, as far as it tells of NUMBERs, PRIMES and a line's words."""

import re
import unittest

from rootprime.lines import number_end, number_in, parsed, primes_written, wrong_word
from tests.helper import SIXTY

NUMBER = r"0|-?[1-9][0-9]{0,59}"
WORDS = ["", "-", "0", "-0", "00", "01", "-01", "1", "-1", "+1", "--1", "1-", "10", "-10", "9" * 60, "9" * 61,
         "-" + "9" * 60, "-" + "9" * 61, "1 ", " 1", "1\n", "\n", "a", "1a", "a1", "1.0", "1e5", "1_0", "0x1", "1,1"]


class Numbers(unittest.TestCase):

    def test_words(self):
        for word in WORDS:
            right = int(word) if re.fullmatch(NUMBER, word) else None
            self.assertEqual(number_in(word), right, word)
            self.assertIn(type(number_in(word)), (int, type(None)))

    def test_all_short_words(self):
        signs = "-019a "
        words = [""]
        for _ in range(5):
            words = words + [word + sign for word in words for sign in signs]
        for word in set(words):
            self.assertEqual(number_in(word), int(word) if re.fullmatch(NUMBER, word) else None, word)

    def test_as_long_as_it_may_be(self):
        for word in WORDS:
            for ahead in ("", "(", "1 ", "ab"):
                found = re.match(NUMBER, word)
                end = len(ahead) + (found.end() if found else 0)
                self.assertEqual(number_end(ahead + word, len(ahead)), end, (ahead, word))


class Primes(unittest.TestCase):

    def test_right_ones(self):
        for word, primes in (("2", (2,)), ("2*3", (2, 3)), ("2*3*5*7*11", (2, 3, 5, 7, 11)), ("1000000000", (10 ** 9,)),
                             ("4*9", (4, 9)), ("2*1000000000", (2, 10 ** 9))):
            self.assertEqual(primes_written(word), primes)

    def test_wrong_ones(self):
        for word in ("", "*", "2*", "*2", "2**3", "3*2", "2*2", "1", "0", "-2", "1*2", "-3*2", "2*3*5*7*11*13",
                     "1000000001", "2*1000000001", "02", "+2", "2,3", "2 3", "2*a", "a", "2*-3", "2* 3", str(SIXTY),
                     "9" * 61):
            self.assertIsNone(primes_written(word), word)


class Lines(unittest.TestCase):

    def test_whether_primes_are_looked_at(self):
        for word in ("9", "2*9", "4*7", "1000000000"):
            self.assertEqual(wrong_word(f"order 3 by {word}", True), 3)
            self.assertIsNone(wrong_word(f"order 3 by {word}", False))
            self.assertEqual(wrong_word(f"order 3 by {word} 5", True), 3)
            self.assertEqual(wrong_word(f"order 3 by {word} 5", False), 4)
        for word in ("7*7", "7*5", "1*7", "1000000001"):
            self.assertEqual(wrong_word(f"order 3 by {word}", False), 3)

    def test_parsed(self):
        for line, right in (("prime 7", ("prime", (7,), ())), ("part 12", ("part", (12,), ())),
                            ("squares 25", ("squares", (25,), ())), ("order -3 by 5*7", ("order", (-3,), (5, 7))),
                            ("power 2 0 by 7", ("power", (2, 0), (7,))),
                            ("roots 2 4 by 5*7", ("roots", (2, 4), (5, 7))),
                            ("which 3 -5 by 7", ("which", (3, -5), (7,)))):
            self.assertIsNone(wrong_word(line, True))
            self.assertEqual(parsed(line), right)


if __name__ == "__main__":
    unittest.main()
