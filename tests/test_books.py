"""Point 40: what a book is, and where what isn't so is refused."""

import unittest

from rootprime.books import answers, read_book
from rootprime.errors import NoText
from rootprime.questions import Question
from tests.helper import GREAT_PRIMES, SIXTY, is_prime, soon, wrong_word_by_hand

LINES = ("prime 7", "prime 1000000000", "part 12", "squares 25", "order -3 by 5*7", "order 0 by 2", "power 2 0 by 7",
         "power -2 10 by 2*3*5*7*11", "roots 2 4 by 5*7", "roots 1000000000 -4 by 7", "which 3 -5 by 7",
         f"which {SIXTY} -{SIXTY} by 2*999999937")

# Words that stand in for others.
WORDS = ("", "prime", "part", "squares", "order", "power", "roots", "which", "by", "BY", "Prime", "0", "1", "2", "7",
         "-1", "-7", "-0", "00", "07", "-07", "+1", "1.0", "--1", "-", "a", "*", "7*", "*7", "5**7", "5*7", "7*5",
         "7*7",
         "2*3*5*7*11", "2*3*5*7*11*13", "4", "2*9", "1*2", "0*2", "-2", "-3*2", "5*07", "5*+7", "5, 7", "5,7", "5*7*",
         "1000000000", "1000000001", "1000000007", "2*1000000007", "999999937", "999999938", str(SIXTY), f"-{SIXTY}",
         "1" + "0" * 60, "-1" + "0" * 60, "9" * 61, "~", "7\t", "7~", "by7", "7by")


def wrong_place(text):
    """The fields of NoText, by the point's own words; None where the text is a book."""
    for number, line in enumerate(text.split("\n")):
        if number == 60:
            return (60, 0)
        word = wrong_word_by_hand(line)
        if word is not None:
            return (number, word)
    return None


class Books(unittest.TestCase):

    def look(self, text):
        """It is read line by line, or refused at the place of the point's own words."""
        right = wrong_place(text)
        if right is None:
            questions = read_book(text)
            self.assertIs(type(questions), list)
            self.assertTrue(all(isinstance(question, Question) for question in questions))
            self.assertEqual([question.asked() for question in questions], text.split("\n"))
            return
        for deed in (read_book, answers):
            with self.assertRaises(NoText, msg=text) as caught:
                deed(text)
            self.assertEqual((caught.exception.line, caught.exception.word), right, text)

    def refused(self, text, line, word):
        self.assertEqual(wrong_place(text), (line, word), text)
        self.look(text)

    def test_each_kind(self):
        for line in LINES:
            self.assertIsNone(wrong_place(line))
            self.look(line)
        self.look("\n".join(LINES))
        self.assertEqual([told[0] for told in answers("\n".join(LINES))], list(LINES))

    def test_sixty_lines_and_more(self):
        for many in (1, 2, 59, 60):
            book = "\n".join((LINES * 6)[:many])
            self.look(book)
            self.assertEqual(len(read_book(book)), many)
        book = "\n".join((LINES * 6)[:60])
        for more in ("\n", "\nprime 7", "\n\n", "\nnothing", "\nprime 7\nprime 7", "\n" * 100):
            self.refused(book + more, 60, 0)
        # A line ahead of the one too many that isn't so goes first, and is told with its own word.
        self.refused("\n".join(["prime 7"] * 59 + ["prime"] + ["prime 7"]), 59, 1)
        self.refused("\n".join(["prime 7"] * 70 + ["prime"]), 60, 0)
        self.refused("\n".join(["prime x"] * 70), 0, 1)

    def test_signs_at_the_ends(self):
        self.refused("", 0, 0)
        self.refused("\n", 0, 0)
        self.refused(" ", 0, 0)
        self.refused("  ", 0, 0)
        for line in LINES:
            many = len(line.split(" "))
            self.refused(line + "\n", 1, 0)
            self.refused("\n" + line, 0, 0)
            self.refused(line + "\n\n" + line, 1, 0)
            self.refused(" " + line, 0, 0)
            self.refused(line + " ", 0, many)
            self.refused(line + "  ", 0, many)
            for at, sign in enumerate(line):
                if sign == " ":
                    self.refused(line[:at] + " " + line[at:], 0, line[:at].count(" ") + 1)
                    self.look(line[:at] + "\n" + line[at + 1:])
                    self.look(line[:at] + line[at + 1:])

    def test_the_first_line_that_is_not_so(self):
        self.refused("prime 7\nprime x\nprime", 1, 1)
        self.refused("prime 7\nwhich 3 5 by 7 7\nprime x", 1, 5)
        self.refused("prime 7\nprime 7\n", 2, 0)
        self.refused("prime 7\npart 7\nsquares 7\norder 7", 3, 2)

    def test_words_left_out_put_in_and_put_over(self):
        with soon(60):
            for line in LINES:
                words = line.split(" ")
                for at in range(len(words) + 1):
                    self.look(" ".join(words[:at]))
                    self.look(" ".join(words[:at] + words[at + 1:]))
                    for word in WORDS:
                        self.look(" ".join(words[:at] + [word] + words[at:]))
                        self.look(" ".join(words[:at] + [word] + words[at + 1:]))
                        self.look(" ".join(words[:at] + [word]))

    def test_one_lacks(self):
        for line in LINES:
            words = line.split(" ")
            for many in range(1, len(words)):
                self.refused(" ".join(words[:many]), 0, many)

    def test_one_too_many(self):
        for line in LINES:
            many = len(line.split(" "))
            for word in WORDS:
                self.refused(f"{line} {word}", 0, many)
                self.refused(f"{line} {word} {word}", 0, many)

    def test_the_first_word_that_is_not_so(self):
        for line, word in (("prime x y", 1), ("prime 7 y", 2), ("order x by", 1), ("order 3 by", 3), ("order 3 bye", 2),
                           ("order 3 7", 2), ("power 3 by 7", 2), ("power 3 -1 by 7", 2), ("power 3 -1 bye 8", 2),
                           ("roots 0 1 by 8", 1), ("roots 1 1 by 8", 4), ("roots 1 1 by 8 9", 4),
                           ("roots 1 1 by 7 9", 5),
                           ("which 1 1 by", 4), ("which 1 1", 3), ("which", 1), ("nothing", 0), ("nothing 1", 0),
                           ("order 3 by 9 x", 3), ("part 1 x", 1)):
            self.refused(line, 0, word)

    def test_numbers_and_their_bounds(self):
        for kind in ("prime", "part", "squares"):
            for n in ("2", "3", "999999999", "1000000000"):
                self.look(f"{kind} {n}")
                self.assertIsNone(wrong_place(f"{kind} {n}"))
            for n in ("1", "0", "-1", "-2", "1000000001", "-0", "00", "02", "+2", "9" * 60, "9" * 61):
                self.refused(f"{kind} {n}", 0, 1)
        for k in ("1", "2", "999999999", "1000000000"):
            self.assertIsNone(wrong_place(f"roots {k} 1 by 7"))
            self.look(f"roots {k} 1 by 7")
        for k in ("0", "-1", "1000000001", "-0", "01", "+1", "9" * 61):
            self.refused(f"roots {k} 1 by 7", 0, 1)
        for e in ("0", "1", "9" * 60):
            self.assertIsNone(wrong_place(f"power 3 {e} by 7"))
            self.look(f"power 3 {e} by 7")
        for e in ("-1", "-0", "00", "-" + "9" * 60, "9" * 61):
            self.refused(f"power 3 {e} by 7", 0, 2)
        for a in ("0", "-1", "9" * 60, "-" + "9" * 60):
            for line in (f"order {a} by 7", f"power {a} 3 by 7", f"roots 1 {a} by 7", f"which {a} 3 by 7",
                         f"which 3 {a} by 7"):
                self.assertIsNone(wrong_place(line))
                self.look(line)
        for a in ("-0", "00", "01", "-01", "+1", "9" * 61, "-" + "9" * 61, "1" + "0" * 60, "a", "", "1-", "--1", "1.0"):
            self.refused(f"order {a} by 7", 0, 1)
            self.refused(f"power {a} 3 by 7", 0, 1)
            self.refused(f"roots 1 {a} by 7", 0, 2)
            self.refused(f"which {a} 3 by 7", 0, 1)
            self.refused(f"which 3 {a} by 7", 0, 2)

    def test_primes(self):
        great = sorted(GREAT_PRIMES)
        for primes in ("2", "999999937", "2*3", "2*3*5*7*11", "*".join(str(p) for p in great[:5]), "2*999999937"):
            for line in (f"order 3 by {primes}", f"power 3 5 by {primes}", f"roots 2 1 by {primes}",
                         f"which 3 5 by {primes}"):
                self.assertIsNone(wrong_place(line))
                self.look(line)
        for primes in ("1", "0", "-2", "4", "9", "91", "2*4", "4*5", "2*3*5*7*9", "2*2", "3*2", "2*5*3", "2*3*3",
                       "2*3*5*7*11*13", "1000000007", "2*1000000007", "1000000000", "999999938", "999634589", "*",
                       "*2", "2*",
                       "2**3", "2*3*", "02", "2*03", "+2", "2*+3", "2,3", "2*3,5", "a", "2*a", "", "by", "9" * 60,
                       "9" * 61):
            for line, word in (("order 3 by", 3), ("power 3 5 by", 4), ("roots 2 1 by", 4), ("which 3 5 by", 4)):
                self.refused(f"{line} {primes}", 0, word)
                self.refused(f"{line} {primes} 7", 0, word)

    def test_every_number_as_a_prime(self):
        for n in range(-3, 300):
            for line in (f"order 1 by {n}", f"power 1 1 by 2*{n}"):
                self.look(line)
                self.assertIs(wrong_place(line) is None, is_prime(n) and (n != 2 or "*" not in line))

    def test_new_each_time(self):
        book = "prime 7\npart 12"
        questions = read_book(book)
        told = answers(book)
        right = list(told)
        told.clear()
        questions.reverse()
        self.assertEqual([question.asked() for question in read_book(book)], ["prime 7", "part 12"])
        self.assertEqual(answers(book), right)

    def test_soon(self):
        primes = [p for p in range(10 ** 9 - 6500, 10 ** 9) if is_prime(p)][-300:]
        book = "\n".join("order 2 by " + "*".join(str(p) for p in primes[at:at + 5]) for at in range(0, 300, 5))
        with soon(20):
            self.assertEqual(len(read_book(book)), 60)
        with soon():
            self.refused("prime " + "9" * 10 ** 5, 0, 1)
            self.refused("order 1 by " + "*".join(["7"] * 10 ** 5), 0, 3)
            self.refused("prime 7\n" * 10 ** 5, 60, 0)


if __name__ == "__main__":
    unittest.main()
