"""Point 44: the looker lets by what is so, and tells the number of the first thing that isn't."""

import copy
import itertools
import math
import unittest
from unittest import mock

from rootprime.books import answers
from rootprime.looker import first_wrong
from rootprime.primepapers import parting_paper, prime_paper
from tests.helper import (
    GREAT_PRIMES, PAPERS_ABOVE, SIXTY, alike, bends, every_kind, factors, is_one_of, is_right_parting_paper,
    is_right_prime_paper, is_text, let_rows, other_papers, papers_of, papers_shown, soon, taken,
    text_of, thing_of, wrong_word_by_hand,
)

BOOK = """prime 7
prime 12
part 12
squares 25
squares 21
order 3 by 5*7
order 5 by 5*7
power 3 4 by 5*7
roots 2 4 by 5*7
roots 2 2 by 5*7
roots 2 0 by 3
roots 408 1 by 409
which 3 27 by 5*7
which 3 6 by 5*7
which 2 3 by 5*7
which 5 3 by 5*7
which 1 1 by 2"""
SIGNS = "() -0127ay,^*\n"


def is_right(thing):
    """The point's own words, of questions about small numbers."""
    if not (type(thing) is tuple and len(thing) == 3 and all(type(text) is str for text in thing)):
        return False
    line, told, text = thing
    if wrong_word_by_hand(line, False) is not None or not is_text(text):
        return False
    shown = thing_of(text)
    if not (type(shown) is tuple and len(shown) == 2 and type(shown[0]) is tuple):
        return False
    return are_theirs(line, told, *shown) and is_one_of((told, shown[1]), let_rows(line))


def are_theirs(line, told, papers, thing):
    """Whether the papers are those that the line asks for."""
    kind, numbers, primes = taken(line)
    if kind == "prime":
        return told == "no" and papers == () or is_papers_of(papers, numbers)
    if primes:
        return is_papers_of(papers, primes)
    times = tuple(many for _, many in factors(numbers[0]))
    return len(papers) == len(times) and is_right_parting_paper(numbers[0], tuple(zip(papers, times)))


def is_papers_of(papers, primes):
    return all(is_right_prime_paper(paper) for paper in papers) and [paper[0] for paper in papers] == primes


def bent_texts(text, signs=SIGNS):
    """All texts that differ at one place: a sign left out, put in, put over, two signs put the other way round."""
    for at in range(len(text) + 1):
        yield text[:at] + text[at + 1:]
        yield text[:at] + text[at:at + 2][::-1] + text[at + 2:]
        for sign in signs:
            yield text[:at] + sign + text[at:]
            yield text[:at] + sign + text[at + 1:]


class Looker(unittest.TestCase):

    def let_by(self, *things):
        self.assertIsNone(first_wrong(list(things)), things)

    def stopped(self, *things):
        for thing in things:
            self.assertEqual(first_wrong([thing]), 0, thing)

    def look(self, thing):
        """It is let by just where it is right."""
        wrong = first_wrong([thing])
        self.assertIs(wrong if wrong is None else type(wrong), None if is_right(thing) else int, thing)
        self.assertIn(wrong, (None, 0))

    def shown(self, line, told, thing, papers=None):
        """An answer that is written by hand."""
        return (line, told, text_of((papers_shown(line, told) if papers is None else tuple(papers), thing)))

    def test_what_is_told_is_let_by(self):
        told = answers(BOOK)
        self.assertIsNone(first_wrong(told))
        self.assertIsNone(first_wrong(told[::-1]))
        self.assertIsNone(first_wrong(told + told))
        for one in told:
            self.assertTrue(is_right(one), one)
            self.let_by(one)
            self.let_by(one, one)

    def test_a_list_of_nothing(self):
        self.assertIsNone(first_wrong([]))

    def test_the_first_wrong_one(self):
        told = answers(BOOK)
        wrong = ("prime 7", "no", told[0][2])
        for at in range(len(told) + 1):
            self.assertEqual(first_wrong(told[:at] + [wrong] + told[at:]), at)
            self.assertEqual(first_wrong(told[:at] + [None] + told[at:] + [wrong]), at)
            self.assertEqual(first_wrong(told[:at] + [wrong] * 3), at)
        self.assertEqual(first_wrong(told * 20 + [wrong]), 20 * len(told))

    def test_all_that_is_let(self):
        lines = [f"{kind} {n}" for kind in ("prime", "part", "squares") for n in range(2, 60)]
        for primes in ("2", "7", "5*7", "3*5*7"):
            for a, b in itertools.product(range(-1, 8), range(4)):
                lines += [f"order {a} by {primes}", f"power {a} {b} by {primes}", f"roots {b + 1} {a} by {primes}",
                          f"which {b} {a} by {primes}"]
        for line in lines:
            for told, thing in let_rows(line):
                self.let_by(self.shown(line, told, thing))

    def test_other_answers_to_the_same_question(self):
        told = answers("\n".join(BOOK.split("\n")[:11] + BOOK.split("\n")[12:]))
        with soon(60):
            for one, other in itertools.product(told, told):
                for mixed in ((one[0], other[1], other[2]), (one[0], one[1], other[2]), (one[0], other[1], one[2])):
                    self.look(mixed)

    def test_bent_at_each_place(self):
        with soon(120):
            for one in answers(BOOK):
                if "409" in one[0]:
                    continue
                for at, text in enumerate(one):
                    for bent in bent_texts(text):
                        self.look(one[:at] + (bent,) + one[at + 1:])

    def test_bent_things(self):
        with soon(120):
            for one in answers(BOOK):
                if "409" in one[0]:
                    continue
                papers, thing = thing_of(one[2])
                for bent in bends(thing):
                    self.look(one[:2] + (text_of((papers, bent)),))
                if len(one[2]) < 60:
                    for bent in bends((papers, thing)):
                        self.look(one[:2] + (text_of(bent),))

    def test_things_of_another_kind(self):
        right = answers("prime 7")[0]
        things = every_kind() + [right[:2], right + ("a",), list(right), right[::-1], (right,), [right], right[0],
                                 (7, "yes", right[2]), ("prime 7", True, right[2]), ("prime 7", "yes", None),
                                 ("prime 7", "yes", ((), ())), ("prime 7", ["yes"], right[2]), ("", "", ""),
                                 ("prime 7", "yes", ""), ("prime 7", "yes", "("), ("prime 7", "yes", right[2] + " "),
                                 ("prime 7", "yes", right[2] + "\n"), ("prime 7", "yes", "prime"),
                                 ("prime 7", "yes", "(" * 81 + ")" * 81), ("prime 7", "yes", "7"),
                                 ("prime 7", "yes", "-"), ("prime 7", "yes", "()"), ("prime 7", "yes", "(())"),
                                 ("prime 7", "yes", "(7 ())"), ("prime 7", "yes", "(() ())")]
        self.stopped(*things)
        for thing in things:
            self.assertEqual(first_wrong([right, thing, right]), 1)
        for one in answers(BOOK):
            for at in range(3):
                for thing in every_kind():
                    if type(thing) is not str:
                        self.stopped(one[:at] + (thing,) + one[at + 1:])

    def test_lines_that_are_none(self):
        right = answers("prime 7")[0]
        for line in ("prime", "prime 7 ", " prime 7", "prime  7", "prime 07", "prime +7", "prime 7 7", "Prime 7", "",
                     "prime 7\n", "prime 7\nprime 7", "\nprime 7", "prime 8", "prime -7", "is 7", "7"):
            self.stopped((line,) + right[1:])
        by = answers("order 3 by 5*7")[0]
        for line in ("order 3 by 7*5", "order 3 by 5*7*", "order 3 by 5*5*7", "order 3 by 5", "order 3 by 7",
                     "order 3 by 5*7*11", "order 3 by 5 7", "order 3 by 5*07", "order 03 by 5*7", "order 3 5*7",
                     "order 3 by 5*7 ", "order 3  by 5*7", "order 3 by", "order by 5*7", "order 3 by 35"):
            self.stopped((line,) + by[1:])

    def test_bounds_of_lines(self):
        above = PAPERS_ABOVE[0]
        self.assertEqual(above[0], 10 ** 9 + 7)
        self.stopped(self.shown("prime 1000000007", "yes", (), [above]))
        self.stopped(self.shown("part 1000000007", "1000000007^1", (1,), [above]))
        self.stopped(self.shown("prime 1", "yes", (), []), self.shown("part 1", "", (), []),
                     self.shown("squares 1", "0,1", ((), ("all", 1)), []), self.shown("part 1", "none", (), []))
        self.stopped(self.shown("power 2 3 by 1000000007", "8", (), [above]))
        self.stopped(self.shown("order 1 by 1000000007", "1", (1,), [above]))
        self.stopped(self.shown("roots 1 1 by 1000000007", "1", ("by", (("turned", 1, 1),)), [above]))
        self.stopped(self.shown("which 1 1 by 1000000007", "0", ("by", ((1, 0),)), [above]))
        self.let_by(self.shown("which 1 1 by 999999937", "0", ("by", ((1, 0),))))
        six = papers_of([2, 3, 5, 7, 11, 13])
        self.stopped(self.shown("power 2 3 by 2*3*5*7*11*13", "8", (), six))
        self.let_by(self.shown("power 2 3 by 2*3*5*7*11", "8", (), six[:5]))
        self.stopped(self.shown("roots 0 1 by 7", "none", ("none", 1, 1)), self.shown("power 2 -1 by 7", "4", ()))
        self.let_by(self.shown("roots 1000000000 1 by 7", "1 6", ("by", (("turned", 1, 6),))))
        self.stopped(self.shown("roots 1000000002 1 by 7", "1 6", ("by", (("turned", 1, 6),))))

    def test_primes_that_are_none(self):
        forged = [(9, full, parts) for full in range(1, 9) for parts in (parting_paper(8), (), ((prime_paper(2), 1),))]
        forged += [(9, 2, parting_paper(9)), (9,), 9, (9, 2), (3, 2, parting_paper(2)), prime_paper(7)]
        for paper in forged:
            self.stopped(self.shown("power 2 3 by 9", "8", (), [paper]), self.shown("order 1 by 9", "1", (1,), [paper]),
                         self.shown("order 2 by 9", "6", (6,), [paper]),
                         self.shown("order 9 by 9", "nought", (), [paper]),
                         self.shown("roots 1 2 by 9", "2", ("by", (("turned", 2, 1),)), [paper]),
                         self.shown("roots 2 0 by 9", "0", ("by", (("nought",),)), [paper]),
                         self.shown("which 2 4 by 9", "2", ("by", ((6, 2),)), [paper]),
                         self.shown("which 9 4 by 9", "nought", (), [paper]),
                         self.shown("power 2 3 by 2*9", "8", (), [prime_paper(2), paper]),
                         self.shown("prime 9", "yes", (), [paper]), self.shown("part 9", "9^1", (1,), [paper]),
                         self.shown("squares 9", "0,3", ((1,), ("all", 1)), [paper]))
        # A number that many powers show to be a prime, but that is none: 561 is 3 times 11 times 17.
        for full in range(1, 561):
            self.stopped(self.shown("prime 561", "yes", (), [(561, full, parting_paper(560))]))

    def test_papers_that_are_not_theirs(self):
        two, five, seven = papers_of([2, 5, 7])
        for papers in ([], [five], [seven], [seven, five], [five, five], [five, seven, seven], [two, five, seven],
                       [five, prime_paper(11)], [(five, seven)], [five, None], [five, 7], [five, "seven"], [five, ()]):
            self.stopped(self.shown("power 3 4 by 5*7", "11", (), papers),
                         self.shown("order 3 by 5*7", "12", (4, 6), papers),
                         self.shown("roots 2 4 by 5*7", "2 12 23 33", ("by", (("turned", 2, 4), ("turned", 2, 6))),
                                    papers),
                         self.shown("which 3 27 by 5*7", "3", ("by", ((4, 3), (6, 3))), papers),
                         self.shown("order 5 by 5*7", "nought", (), papers),
                         self.shown("roots 408 1 by 5*409", "many 1632", (), papers))
        for papers in ([], [five], [two, seven], [seven, seven], [(seven,)], [7], [None]):
            self.stopped(self.shown("prime 7", "yes", (), papers), self.shown("part 7", "7^1", (1,), papers),
                         self.shown("squares 7", "none", ((1,), ("three", 7)), papers))
        for papers in ([seven], [(12,)], [two], [()]):
            self.stopped(self.shown("prime 12", "no", (2,), papers))

    def test_other_full_numbers(self):
        for one, other in itertools.product(other_papers(7), other_papers(13)):
            for line in ("order 3 by 7*13", "power 3 4 by 7*13", "roots 3 1 by 7*13", "which 2 4 by 7*13",
                         "order 7 by 7*13",
                         "roots 6 5 by 7*13", "which 5 6 by 7*13", "part 91", "squares 91"):
                told, thing = let_rows(line)[0]
                self.let_by(self.shown(line, told, thing, [one, other]))
            self.let_by(self.shown("prime 13", "yes", (), [other]))
        for full in range(-1, 9):
            paper = (7, full, parting_paper(6))
            self.look(self.shown("prime 7", "yes", (), [paper]))
            self.look(self.shown("order 2 by 7", "3", (3,), [paper]))

    def test_any_divisor(self):
        for n in (4, 6, 12, 30, 91, 97, 360):
            for d in range(-5, n + 5):
                answer = self.shown(f"prime {n}", "no", (d,), ())
                self.assertEqual(first_wrong([answer]), None if 2 <= d < n and n % d == 0 else 0, (n, d))
        self.let_by(self.shown("prime 1000000000", "no", (500000000,), ()))
        for thing in ((), (2, 2), 2, ((2,),), (None,), ("two",), 4, None):
            self.stopped(self.shown("prime 4", "no", thing, ()))
        for thing in ((2,), 7, (7,), None, "yes", ((),)):
            self.stopped(self.shown("prime 7", "yes", thing))

    def test_parts_and_squares(self):
        self.let_by(self.shown("part 12", "2^2 3^1", (2, 1)))
        for told in ("2^2 3^1 ", " 2^2 3^1", "2^2  3^1", "3^1 2^2", "2^2 3", "2^2*3^1", "2^02 3^1", "12^1", "none", "",
                     "2^2",
                     "2^1 2^1 3^1", "2^2 3^1\n"):
            self.stopped(self.shown("part 12", told, (2, 1)))
        for times in ((2,), (2, 1, 1), (1, 2), (1, 1), 21, None, ((2, 1),), (2, None), (2, "one"), (), (SIXTY, 1)):
            self.stopped(self.shown("part 12", "2^2 3^1", times),
                         self.shown("squares 12", "none", (times, ("three", 3))))
        right = ((2,), ("all", 2))
        self.let_by(self.shown("squares 25", "0,5 3,4", right))
        for told in ("0,5", "3,4", "3,4 0,5", "5,0 3,4", "0,5 4,3", "0,5 3,4 4,3", "0,-5 3,4", "-0,5 3,4", "00,5 3,4",
                     "none",
                     "0,5  3,4", "0,5 3,4 ", "0 5 3 4", "0,5,3,4", "0;5 3;4", "0, 5 3,4", "", "0,5 3,04", "0,5 0,5"):
            self.stopped(self.shown("squares 25", told, right))
        for thing in (("all", 2), ((2,), ("all", 1)), ((2,), ("all", 3)), ((2,), ("three", 5)), ((2,),),
                      (2, ("all", 2)),
                      ((1, 1), ("all", 2)), ((2,), "all", 2), ((2,), ("all", 2), ()), None, (), ((2,), ())):
            self.stopped(self.shown("squares 25", "0,5 3,4", thing))
        self.let_by(self.shown("squares 21", "none", ((1, 1), ("three", 3))))
        self.stopped(self.shown("squares 21", "none", ((1, 1), ("three", 7))),
                     self.shown("squares 21", "", ((1, 1), ("three", 3))),
                     self.shown("squares 21", "none", ((1, 1), ("all", 0))))

    def test_orders(self):
        right = self.shown("order 3 by 5*7", "12", (4, 6))
        self.let_by(right)
        for told in ("24", "6", "4", "1", "0", "-12", "012", "12 ", " 12", "none", "nought", "", "4 6", "many 12",
                     "far 12"):
            self.stopped((right[0], told, right[2]))
        for thing in ((4, 12), (8, 6), (12, 12), (4,), (4, 6, 1), (6, 4), (0, 6), (-4, 6), (4, None), (4, "six"), 12,
                      (),
                      None, ((4, 6),), (4, (6,))):
            self.stopped(self.shown("order 3 by 5*7", "12", thing), self.shown("order 3 by 5*7", "nought", thing))

    def test_nought(self):
        for a in range(-8, 16):
            for primes in ("2", "5", "5*7", "2*3*5"):
                for line in (f"order {a} by {primes}", f"which {a} 1 by {primes}", f"which 1 {a} by {primes}",
                             f"roots 2 {a} by {primes}", f"power {a} 2 by {primes}"):
                    for thing in ((), (1,), ("nought",), None):
                        self.look(self.shown(line, "nought", thing))
                    for told in ("none", "0", "Nought", "nought ", ""):
                        self.look(self.shown(line, told, ()))

    def test_many(self):
        self.let_by(self.shown("roots 408 1 by 409", "many 408", ()),
                    self.shown("roots 408 1 by 2*3*409", "many 816", ()),
                    self.shown("roots 210 1 by 7*71", "many 420", ()),
                    self.shown("roots 999999936 1 by 999999937", "many 999999936", ()))
        for told in ("many 407", "many 409", "many 0408", "many", "many ", "many 408 ", "many  408", "many -408", "408",
                     "none", "nought", "far 408", "many 816", "Many 408", ""):
            self.stopped(self.shown("roots 408 1 by 409", told, ()))
        for thing in (("by", ()), (408,), ("many", 408), None, ("none", 0, 1, 1), 408):
            self.stopped(self.shown("roots 408 1 by 409", "many 408", thing))
        # Where there are just 400, or where by some prime there are none, it isn't due.
        self.stopped(self.shown("roots 400 1 by 401", "many 400", ()),
                     self.shown("roots 40 1 by 11*41", "many 400", ()),
                     self.shown("roots 408 2 by 5*409", "many 1632", ()),
                     self.shown("roots 408 2 by 409", "many 408", ()),
                     self.shown("roots 408 409 by 409", "many 1", ()),
                     self.shown("roots 408 409 by 409", "many 408", ()),
                     self.shown("roots 2 4 by 5*7", "many 4", ()), self.shown("order 1 by 409", "many 408", ()))
        a = alike([409, 421], [0, 1])
        self.let_by(self.shown(f"roots 420 {a} by 409*421", "many 420", ()))
        self.stopped(self.shown(f"roots 420 {a} by 409*421", f"many {12 * 420}", ()))
        # All of it is so, but they are too many to be told.
        found = " ".join(str(x) for x in range(1, 409))
        self.stopped(self.shown("roots 408 1 by 409", found, ("by", (("turned", 1, prime_paper(409)[1]),))))
        found = " ".join(str(x) for x in range(1, 401))
        self.let_by(self.shown("roots 400 1 by 401", found, ("by", (("turned", 1, prime_paper(401)[1]),))))

    def test_roots(self):
        shown = ("by", (("turned", 2, 4), ("turned", 2, 6)))
        right = self.shown("roots 2 4 by 5*7", "2 12 23 33", shown)
        self.let_by(right)
        for told in ("2 12 23", "12 23 33", "2 12 23 33 ", " 2 12 23 33", "2  12 23 33", "33 23 12 2", "2 2 12 23 33",
                     "2 12 23 68", "-2 2 12 23", "02 12 23 33", "2,12,23,33", "none", "nought", "many 4", "",
                     "2 12 23 34"):
            self.stopped((right[0], told, right[2]))
        self.stopped(self.shown("roots 2 4 by 5*7", "2 12 23 33", shown[1]),
                     self.shown("roots 2 4 by 5*7", "none", shown),
                     self.shown("roots 2 4 by 5*7", "2 12 23 33", ("none", 0, 2, 1)))
        # Any place without a root.
        for n, (p, a) in enumerate([(5, 3), (7, 3)]):
            self.let_by(self.shown("roots 2 3 by 5*7", "none", ("none", n, (p - 1) // 2, p - 1)))
            self.stopped(self.shown("roots 2 3 by 5*7", "0", ("none", n, (p - 1) // 2, p - 1)),
                         self.shown("roots 2 3 by 5*7", "", ("none", n, (p - 1) // 2, p - 1)),
                         self.shown("roots 2 3 by 5*7", "many 0", ("none", n, (p - 1) // 2, p - 1)))

    def test_which(self):
        right = self.shown("which 3 27 by 5*7", "3", ("by", ((4, 3), (6, 3))))
        self.let_by(right)
        for told in ("15", "-9", "03", "3 ", " 3", "none", "nought", "far 3", "", "three", "3 3", "+3", "x", "-",
                     "9" * 61):
            self.stopped((right[0], told, right[2]))
        for told in ("none",):
            self.let_by(self.shown("which 3 6 by 5*7", told, ("apart", 0, 1, (4, 0), (6, 3))))
        for told in ("3", "0", "", "None", "-", "x", "none ", "apart", "nought", "9" * 61):
            self.stopped(self.shown("which 3 6 by 5*7", told, ("apart", 0, 1, (4, 0), (6, 3))),
                         self.shown("which 2 3 by 5*7", told, ("none", 1, 3, 6)))

    def test_any_two_that_are_apart(self):
        primes = [3, 5, 7, 11, 13]
        b = alike(primes, [prime_paper(p)[1] for p in primes])
        a = alike(primes, [prime_paper(p)[1] ** y for p, y in zip(primes, (0, 1, 0, 5, 8))])
        line = f"which {b} {a} by 3*5*7*11*13"
        rows = let_rows(line)
        self.assertGreater(len(rows), 3)
        for told, thing in rows:
            self.let_by(self.shown(line, told, thing))
            self.stopped(self.shown(line, told, thing[:1] + (thing[2], thing[1]) + thing[3:]))

    def test_far(self):
        p, q = 71850239, 35925119
        line = f"which 13 5 by {p}"
        self.let_by(self.shown(line, f"far {q}", (p - 1,)))
        self.assertEqual(answers(line)[0], self.shown(line, f"far {q}", (p - 1,)))
        for told in (f"far {q + 1}", "far 2", f"far {p - 1}", f"far {p}", "far", "far ", f"far {q} ", f"far  {q}",
                     f"far 0{q}",
                     f"Far {q}", "nought", "none", f"many {q}", str(q), f"far -{q}"):
            self.stopped(self.shown(line, told, (p - 1,)))
        for thing in ((), (q,), (p,), (2 * p - 2,), (p - 1, 1), ("far", p - 1), None, p - 1, ((p - 1,),), (1,), (0,),
                      (None,)):
            self.stopped(self.shown(line, f"far {q}", thing))
        # The order of 9 is q; no number that isn't a square is a power of it.
        self.let_by(self.shown(f"which 9 3 by {p}", f"far {q}", (q,)))
        self.stopped(self.shown(f"which 9 13 by {p}", f"far {q}", (q,)),
                     self.shown(f"which 9 3 by {p}", f"far {q}", (p - 1,)))
        self.let_by(self.shown(f"which 9 13 by {p}", "none", ("none", 0, q, p - 1)))
        # Where the order has no great prime, where p divides either number: not far, but 0, 1, nought.
        self.stopped(self.shown(f"which -1 1 by {p}", f"far {q}", (2,)),
                     self.shown(f"which -1 1 by {p}", "far 2", (2,)),
                     self.shown(f"which 1 1 by {p}", "far 0", (1,)), self.shown(f"which 1 1 by {p}", f"far {q}", (1,)),
                     self.shown(f"which 13 {p} by {p}", f"far {q}", (p - 1,)),
                     self.shown(f"which {p} 13 by {p}", f"far {q}", (p - 1,)),
                     self.shown(f"which {p} 13 by {p}", f"far {q}", (1,)),
                     self.shown("which 3 5 by 7", "far 3", (6,)), self.shown("which 1 1 by 2", "far 1", (1,)))
        self.let_by(self.shown(f"which -1 -1 by {p}", "1", ("by", ((2, 1),))),
                    self.shown(f"which {p} 13 by {p}", "nought", ()))

    def test_far_by_several_primes(self):
        p, q = 71850239, 999999929
        right = self.shown(f"which 3 1 by {p}*{q}", "far 124999991", (35925119, q - 1))
        self.let_by(right, *answers(f"which 3 1 by {p}*{q}"))
        self.stopped(right[:1] + ("far 35925119",) + right[2:],
                     self.shown(f"which 3 1 by {p}*{q}", "far 124999991", (q - 1, 35925119)),
                     self.shown(f"which 3 1 by {p}*{q}", "far 124999991", (35925119,)))
        # By 5 it is none, so this is told, whichever prime stands first.
        line = f"which {alike([5, p], [1, 13])} {alike([5, p], [2, 5])} by 5*{p}"
        self.stopped(self.shown(line, "far 35925119", (1, p - 1)))
        self.let_by(self.shown(line, "none", ("none", 0, 1, 2)))
        line = f"which {alike([5, p], [2, 13])} {alike([5, p], [3, 5])} by 5*{p}"
        self.let_by(self.shown(line, "far 35925119", (4, p - 1)))

    def test_what_would_be_told_but_for_too_far(self):
        p, q = 71850239, 999999929
        for x in (0, 1, 12345, p - 2):
            line = f"which 13 {pow(13, x, p)} by {p}"
            self.let_by(self.shown(line, str(x), ("by", ((p - 1, x),))), self.shown(line, "far 35925119", (p - 1,)))
            self.stopped(self.shown(line, str(x + p - 1), ("by", ((p - 1, x),))),
                         self.shown(line, str(x), ("by", ((p - 1, x + p - 1),))),
                         self.shown(line, str(x + 1), ("by", ((p - 1, x + 1),))))
        b = alike([p, q], [13, 3])
        x = 10 ** 15 + 12345
        line = f"which {b} {pow(b, x, p * q)} by {p}*{q}"
        x %= math.lcm(p - 1, q - 1)
        self.let_by(self.shown(line, str(x), ("by", ((p - 1, x % (p - 1)), (q - 1, x % (q - 1))))), *answers(line))
        line = f"which {b} {alike([p, q], [13, 1])} by {p}*{q}"
        self.let_by(self.shown(line, "none", ("apart", 0, 1, (p - 1, 1), (q - 1, 0))), *answers(line))
        self.assertEqual(answers(line)[0][1], "far 124999991")

    def test_it_seeks_nothing(self):
        told = answers(BOOK) + answers("which 13 5 by 71850239\nprime 999999937\npart 999999999")
        names = ("rootprime.lines.least_divisor", "rootprime.primepapers.least_divisor", "rootprime.primepapers.parted",
                 "rootprime.orders.order_from", "rootprime.whichpower.sought", "rootprime.roots.one_root",
                 "rootprime.parting.least_divisor_from", "rootprime.kept.small_steps", "rootprime.squares.root_walk",
                 "rootprime.twosquares.two_squares")
        patches = [mock.patch(name, side_effect=AssertionError(name)) for name in names]
        for patch in patches:
            patch.start()
        try:
            self.assertIsNone(first_wrong(told))
            self.stopped(self.shown("power 2 3 by 9", "8", (), [(9, 2, ((told, 3),))]))
        finally:
            mock.patch.stopall()

    def test_great_primes_soon(self):
        primes = "*".join(str(p) for p in sorted(GREAT_PRIMES)[3:])
        book = "\n".join([f"order {SIXTY} by {primes}", f"power {SIXTY} {SIXTY} by {primes}", f"roots 3 1 by {primes}",
                          f"roots 1000000000 1 by {primes}", f"which 2 {2 ** 190} by {primes}",
                          f"which {SIXTY} 3 by {primes}"] + [f"prime {p}" for p in GREAT_PRIMES])
        told = answers(book)
        with soon():
            self.assertIsNone(first_wrong(told))
            self.assertIsNone(first_wrong(told * 28))
            for at, one in enumerate(told):
                self.assertEqual(first_wrong(told[:at] + [one[:1] + (one[1] + "1",) + one[2:]]), at)

    def test_soon(self):
        great = "9" * 60
        deep = "(2 1 " * 79 + "()" + ")" * 79
        with soon():
            for text in (f"(((7 {great} (((2 1 ()) {great})))) ())", f"((({great} {great} (((2 1 ()) {great})))) ())",
                         f"(({deep}) ())", "((" + " ".join(["(7 3 ())"] * 1000) + ") ())", "(" * 2000, great * 100,
                         f"(((7 3 (((2 1 ()) 1) (({great} 2 (((2 1 ()) 1))) {great})))) ())"):
                for line, told in (("prime 7", "yes"), ("part 7", "7^1"), ("squares 7", "none"), ("order 2 by 7", "3"),
                                   ("power 2 3 by 7", "1"), ("roots 2 2 by 7", "3 4"), ("which 3 5 by 7", "5"),
                                   ("which 3 5 by 7", "far 7"), ("squares 25", "0,5 " * 5000), ("part 7", great * 500),
                                   ("roots 2 2 by 7", "3 " * 10000), ("which 3 5 by 7", great * 100)):
                    self.stopped((line, told, text))

    def test_the_list_stays(self):
        told = answers(BOOK) + [None, [], [[1]], ("prime 7", ["yes"], ())]
        before = copy.deepcopy(told)
        first_wrong(told)
        self.assertEqual(told, before)


if __name__ == "__main__":
    unittest.main()
