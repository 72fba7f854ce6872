"""Points 41 and 42: what is told and what is shown of each question."""

import math
import unittest

from rootprime.books import answers, read_book
from rootprime.kept import Kept
from rootprime.primepapers import prime_paper
from rootprime.questions import Question
from tests.helper import (
    GREAT_PRIMES, SIXTY, KeptByHand, alike, is_prime, let_rows, order_by_hand, papers_of, papers_shown, soon, text_of,
    thing_of,
)

SOME = ("2", "3", "7", "31", "2*3", "5*7", "7*13", "2*3*5", "3*5*7*11", "2*3*5*7*11")


def first_let(line):
    """What 41 and 42 tell of a question about small numbers; of the turns any one may be told."""
    told, thing = let_rows(line)[0]
    return (line, told, text_of((papers_shown(line, told), thing)))


def all_let(line):
    """The same with each turn; what isn't the first that is to be told is left out."""
    told, thing = let_rows(line)[0]
    if thing[:1] != ("by",):
        return [first_let(line)]
    papers = papers_shown(line, told)
    return [(line, told, text_of((papers, thing))) for told, thing in let_rows(line)]


class Answers(unittest.TestCase):

    def ask(self, line):
        """The answer to the one question, the same however it is asked."""
        question, = read_book(line)
        self.assertIsInstance(question, Question)
        self.assertEqual(question.asked(), line)
        told = question.answer()
        for again in (question.answer(), question.answer(None), question.answer(Kept(3)), *answers(line),
                      *answers(line, None), *answers(line, Kept(1))):
            self.assertEqual(again, told)
        self.assertTrue(type(told) is tuple and len(told) == 3 and all(type(text) is str for text in told))
        self.assertEqual(told[0], line)
        return told

    def look(self, line):
        self.assertIn(self.ask(line), all_let(line), line)

    def look_row(self, line, told, thing):
        """What is told and shown is just this, with the papers of 42."""
        self.assertEqual(self.ask(line), (line, told, text_of((papers_shown(line, told), thing))))

    def test_prime(self):
        for n in range(2, 300):
            self.look(f"prime {n}")
        self.assertEqual(self.ask("prime 7"),
                         ("prime 7", "yes", "(((7 3 (((2 1 ()) 1) ((3 2 (((2 1 ()) 1))) 1)))) ())"))
        self.assertEqual(self.ask("prime 91"), ("prime 91", "no", "(() (7))"))
        self.assertEqual(self.ask("prime 2"), ("prime 2", "yes", "(((2 1 ())) ())"))
        self.assertEqual(self.ask("prime 1000000000"), ("prime 1000000000", "no", "(() (2))"))
        self.look_row("prime 999999937", "yes", ())
        self.look_row("prime 999950884", "no", (2,))
        self.look_row("prime 999634589", "no", (31607,))

    def test_part(self):
        for n in range(2, 300):
            self.look(f"part {n}")
        self.assertEqual(self.ask("part 360")[1:], (
            "2^3 3^2 5^1", "(((2 1 ()) (3 2 (((2 1 ()) 1))) (5 2 (((2 1 ()) 2)))) (3 2 1))"))
        self.look_row("part 1000000000", "2^9 5^9", (9, 9))
        self.look_row("part 999999937", "999999937^1", (1,))
        self.look_row("part 223092870", "2^1 3^1 5^1 7^1 11^1 13^1 17^1 19^1 23^1", (1,) * 9)

    def test_squares(self):
        for n in range(2, 700):
            self.look(f"squares {n}")
        self.assertEqual(self.ask("squares 25")[1:], ("0,5 3,4", "(((5 2 (((2 1 ()) 2)))) ((2) (all 2)))"))
        self.assertEqual(self.ask("squares 2")[1:], ("1,1", "(((2 1 ())) ((1) (all 1)))"))
        self.assertEqual(self.ask("squares 27")[1:], ("none", "(((3 2 (((2 1 ()) 1)))) ((3) (three 3)))"))
        self.look_row("squares 1000000000", "1200,31600 7696,30672 10000,30000 18000,26000 19920,24560",
                      ((9, 9), ("all", 5)))
        self.look_row("squares 999999929", self.ask("squares 999999929")[1], ((1,), ("all", 1)))
        self.look_row("squares 999999607", "none", ((1,), ("three", 999999607)))

    def shown_of(self, line):
        return thing_of(self.ask(line)[2])[1]

    def test_order(self):
        for primes in SOME:
            for a in range(-3, 30):
                self.look(f"order {a} by {primes}")
        self.assertEqual(self.ask("order 3 by 5*7")[1], "12")
        self.assertEqual(self.shown_of("order 3 by 5*7"), (4, 6))
        self.look_row("order 1 by 2*3*5*7*11", "1", (1,) * 5)
        self.look_row("order 7 by 5*7", "nought", ())
        self.look_row("order 0 by 2", "nought", ())
        self.look_row(f"order {SIXTY} by 103", str(order_by_hand(103, SIXTY)), (order_by_hand(103, SIXTY),))

    def test_power(self):
        for primes in SOME:
            for a in range(-3, 12):
                for e in (0, 1, 2, 3, 10, 100):
                    self.look(f"power {a} {e} by {primes}")
        self.assertEqual(self.ask("power 3 100 by 5*7")[1:], (
            "11", "(((5 2 (((2 1 ()) 2))) (7 3 (((2 1 ()) 1) ((3 2 (((2 1 ()) 1))) 1)))) ())"))
        self.look_row("power 0 0 by 2", "1", ())
        self.look_row("power 0 0 by 2*7", "1", ())
        self.look_row("power 0 5 by 2*7", "0", ())
        whole = math.prod(sorted(GREAT_PRIMES)[:5])
        line = f"power -{SIXTY} {SIXTY} by " + "*".join(str(p) for p in sorted(GREAT_PRIMES)[:5])
        self.look_row(line, str(pow(-SIXTY, SIXTY, whole)), ())

    def test_roots(self):
        for primes in SOME:
            for k in (1, 2, 3, 4, 6, 10 ** 9):
                for a in range(-2, 14, 1 if len(primes) < 6 else 5):
                    self.look(f"roots {k} {a} by {primes}")
        self.assertEqual(self.ask("roots 2 4 by 5*7")[1], "2 12 23 33")
        self.assertEqual(self.shown_of("roots 2 4 by 5*7"), ("by", (("turned", 2, 4), ("turned", 2, 6))))
        self.look_row("roots 5 0 by 2*3", "0", ("by", (("nought",), ("nought",))))
        self.look_row("roots 2 3 by 5*7", "none", ("none", 0, 2, 4))
        self.look_row("roots 2 -1 by 5*7", "none", ("none", 1, 3, 6))

    def test_many_roots(self):
        found, shown = self.ask("roots 400 1 by 401")[1], self.shown_of("roots 400 1 by 401")
        self.assertEqual(found, " ".join(str(x) for x in range(1, 401)))
        self.assertEqual(shown[0], "by")
        for line, many in (("roots 408 1 by 409", 408), ("roots 2040 1 by 2*3*409", 816), ("roots 210 1 by 7*71", 420),
                           ("roots 999999936 1 by 999999937", 999999936),
                           (f"roots 400 {alike([401, 1201, 2801], [0, 1, 1])} by 401*1201*2801", 400 * 400)):
            self.look_row(line, f"many {many}", ())
        # Where by some prime there are none, this is told, though there are many by others.
        self.look_row("roots 408 409 by 7*409", "none", ("none", 0, 1, 409 % 7))
        self.look_row("roots 408 2 by 5*409", "none", ("none", 0, 1, 2))

    def test_which(self):
        for primes in SOME:
            for b in range(-2, 9):
                for a in range(-2, 14, 1 if len(primes) < 6 else 3):
                    self.look(f"which {b} {a} by {primes}")
        self.look_row("which 3 27 by 5*7", "3", ("by", ((4, 3), (6, 3))))
        self.look_row("which 3 6 by 5*7", "none", ("apart", 0, 1, (4, 0), (6, 3)))
        self.look_row("which 2 3 by 5*7", "none", ("none", 1, 3, 6))
        self.look_row("which 1 1 by 2*3*5*7*11", "0", ("by", ((1, 0),) * 5))

    def test_which_is_refused(self):
        for line in ("which 5 3 by 5*7", "which 3 7 by 5*7", "which 0 0 by 2", "which 35 35 by 5*7", "which 0 1 by 7"):
            self.look_row(line, "nought", ())
        p = 71850239
        self.look_row(f"which 13 5 by {p}", "far 35925119", (p - 1,))
        self.look_row(f"which 13 7 by 3*{p}", "far 35925119", (1, p - 1))
        # Of several orders the greatest prime of all is told, though another one is too great as well.
        self.look_row(f"which 3 1 by {p}*999999929", "far 124999991", (35925119, 999999928))
        self.assertEqual(pow(3, 35925119, p), 1)

    def test_which_goes_first(self):
        p = 71850239
        # Nought ahead of all; that there is none ahead of what is too far, whichever prime stands first.
        for a in (0, 3, -6, p, 3 * p):
            self.look_row(f"which 13 {a} by 3*{p}", "nought", ())
        self.look_row(f"which {p} 13 by 3*{p}", "nought", ())
        self.look_row(f"which 4 2 by 3*{p}", "none", ("none", 0, 1, 2))
        self.look_row(f"which 4 13 by {p}*100000007", "none", ("none", 0, 35925119, p - 1))
        q = 999999937
        a = next(a for a in range(2, 100) if pow(a, (p - 1) // 2, p) == 1 and pow(a, (q - 1) // 2, q) == q - 1)
        self.assertEqual(self.ask(f"which 4 {a} by {p}*{q}")[1], "none")
        n, e, r = self.shown_of(f"which 4 {a} by {p}*{q}")[1:]
        self.assertTrue((n, r) == (1, pow(a, e, q)) and r != 1 and pow(4, e, q) == 1)
        # A prime of just 10 ** 6 at most is not too far.
        q, p = next((q, 2 * k * q + 1) for q in range(10 ** 6 - 1, 0, -2) if is_prime(q)
                    for k in range(1, 50) if is_prime(2 * k * q + 1))
        full = prime_paper(p)[1]
        self.assertEqual(self.ask(f"which {full} {pow(full, 12345, p)} by {p}")[1], "12345")
        q, p = next((q, 2 * k * q + 1) for q in range(10 ** 6 + 1, 10 ** 7, 2) if is_prime(q)
                    for k in range(1, 50) if is_prime(2 * k * q + 1))
        full = prime_paper(p)[1]
        self.look_row(f"which {full} {pow(full, 12345, p)} by {p}", f"far {q}", (p - 1,))

    def test_papers_are_those_with_the_least_full_number(self):
        for line in ("power 1 1 by 7*41*999999937", "order 3 by 41", "roots 1 1 by 71"):
            primes = [int(p) for p in line.split(" ")[-1].split("*")]
            self.assertEqual(thing_of(self.ask(line)[2])[0], tuple(papers_of(primes)))

    def test_five_great_primes_soon(self):
        primes = "*".join(str(p) for p in sorted(GREAT_PRIMES)[3:])
        with soon(20):
            for line in (f"order {SIXTY} by {primes}", f"power {SIXTY} {SIXTY} by {primes}",
                         f"roots 1000000000 1 by {primes}", f"roots 3 1 by {primes}",
                         f"roots 999999999 {SIXTY} by {primes}",
                         f"which {SIXTY} {SIXTY ** 2 % 10 ** 60} by {primes}", f"which 2 {2 ** 190} by {primes}"):
                self.ask(line)

    def test_a_whole_book_soon(self):
        primes = [p for p in range(10 ** 9 - 6500, 10 ** 9) if is_prime(p)][-300:]
        book = "\n".join(f"which 2 {2 ** 180 + 3} by " + "*".join(str(p) for p in primes[at:at + 5])
                         for at in range(0, 300, 5))
        with soon(60):
            self.assertEqual(len(answers(book)), 60)

    def test_kept(self):
        kept, right = Kept(3), KeptByHand(3)
        for line in ("which 3 5 by 7", "order 3 by 7", "prime 7", "which 3 5 by 7", "roots 3 1 by 7",
                     "which 3 27 by 5*7",
                     "which 3 6 by 5*7", "which 2 3 by 5*7", "which 5 3 by 5*7", "which 13 5 by 71850239",
                     "which 3 5 by 7",
                     "power 3 5 by 7", "part 7", "squares 25", "which 2 1024 by 998244353", "which 3 6 by 5*7"):
            told, = answers(line, kept)
            self.assertEqual(told, self.ask(line))
            if line.startswith("which") and told[1] != "nought" and "far" not in told[1] and "(none" not in told[2]:
                words = line.split(" ")
                for p in words[-1].split("*"):
                    right.ask(int(p), int(words[1]), int(words[2]))
            self.assertEqual((kept.steps(), kept.tables()), (right.steps, right.tables), line)

    def test_kept_goes_through_a_book(self):
        kept, right = Kept(64), KeptByHand(64)
        answers("which 3 5 by 7\nwhich 3 4 by 7\nwhich 2 3 by 11", kept)
        right.ask(7, 3, 5).ask(7, 3, 4).ask(11, 2, 3)
        self.assertEqual((kept.steps(), kept.tables()), (right.steps, right.tables))


if __name__ == "__main__":
    unittest.main()
