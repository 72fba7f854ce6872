"""Point 43: the text of a thing, and the thing that is read from it."""

import copy
import itertools
import unittest

from rootprime.errors import NoText
from rootprime.papertexts import read, show
from rootprime.primepapers import prime_paper
from tests.helper import GREAT, GREAT_PRIMES, SIXTY, is_text, papers_of, soon, text_of, thing_of

# Each with its text.
THINGS = [
    (0, "0"), (7, "7"), (-7, "-7"), (10, "10"), (-10, "-10"), (SIXTY, "9" * 60), (-SIXTY, "-" + "9" * 60),
    (10 ** 59, "1" + "0" * 59), ("a", "a"), ("none", "none"), ("abcdefgh", "abcdefgh"), ("zzzzzzzz", "zzzzzzzz"),
    (None, "-"), ((), "()"), ((1,), "(1)"), ((0, 0), "(0 0)"), ((None,), "(-)"), ((None, None), "(- -)"),
    ((-1, None, 1), "(-1 - 1)"), (((),), "(())"), (((), ()), "(() ())"),
    ((1, (2, ("is", -3)), ()), "(1 (2 (is -3)) ())"),
    (("by", ((4, 3), (6, 3))), "(by ((4 3) (6 3)))"), ((2, 1, ()), "(2 1 ())"),
    ((7, 3, (((2, 1, ()), 1), ((3, 2, (((2, 1, ()), 1),)), 1))), "(7 3 (((2 1 ()) 1) ((3 2 (((2 1 ()) 1))) 1)))"),
]


def wrong_sign(text):
    """The point's own words: None where it is the text of a thing."""
    if is_text(text):
        return None
    for n in range(len(text)):
        if not may_go_on(text[:n + 1]):
            return n
    return len(text)


def may_go_on(beginning):
    """Whether a text begins so: the number or word that ends it may end there, and then the brackets are closed."""
    opened = beginning.count("(") - beginning.count(")")
    return opened >= 0 and any(is_text(beginning + more + ")" * opened) for more in ("", "0"))


class Show(unittest.TestCase):

    def test_things(self):
        for thing, text in THINGS:
            self.assertEqual(show(thing), text)
            self.assertIs(type(show(thing)), str)
            self.assertEqual(text_of(thing), text)

    def test_lists(self):
        self.assertEqual(show([]), "()")
        self.assertEqual(show([1, [2], (3, [])]), "(1 (2) (3 ()))")
        self.assertEqual(show(([],)), "(())")

    def test_eighty_deep(self):
        for kind in (tuple, list):
            thing = kind()
            for _ in range(79):
                thing = kind([thing])
            self.assertEqual(show(thing), "(" * 80 + ")" * 80)
            within = "word"
            for _ in range(80):
                within = kind([1, within, None])
            self.assertEqual(show(within), "(1 " * 80 + "word" + " -)" * 80)

    def test_papers(self):
        for p in (2, 3, 31) + GREAT_PRIMES:
            text = repr(prime_paper(p)).replace(",)", ")").replace(",", "")
            self.assertEqual(show(prime_paper(p)), text)

    def test_nothing_is_changed(self):
        thing = [1, [2, []], (3, [None])]
        before = copy.deepcopy(thing)
        show(thing)
        self.assertEqual(thing, before)


class Read(unittest.TestCase):

    def assert_as_told(self, text):
        """It is read, and written again as it was, or refused with the place of the point's own words."""
        right = wrong_sign(text)
        if right is None:
            self.assertEqual(repr(read(text)), repr(thing_of(text)))
            self.assertEqual(show(read(text)), text)
            return
        with self.assertRaises(NoText, msg=text) as caught:
            read(text)
        self.assertEqual((caught.exception.line, caught.exception.word), (0, right), text)

    def assert_refused(self, text, n):
        self.assertEqual(wrong_sign(text), n, text)
        self.assert_as_told(text)

    def test_things(self):
        for thing, text in THINGS:
            self.assertEqual(repr(read(text)), repr(thing))
            self.assertEqual(read(show(thing)), thing)

    def test_great_numbers(self):
        for number in GREAT:
            self.assertEqual(read(str(number)), number)
            self.assertEqual(read(f"({number} {number})"), (number, number))

    def test_lists_are_read_as_tuples(self):
        self.assertEqual(repr(read(show([1, [2], (3, [])]))), "(1, (2,), (3, ()))")

    def test_papers(self):
        for p in (2, 3, 31) + GREAT_PRIMES:
            self.assertEqual(read(show(prime_paper(p))), prime_paper(p))
        papers = tuple(papers_of(GREAT_PRIMES))
        self.assertEqual(read(show((papers, ("by", ())))), (papers, ("by", ())))

    def test_eighty_deep_and_more(self):
        for depth in (1, 2, 79, 80):
            for within, thing in (("", ()), ("a", ("a",)), ("- 5 none", (None, 5, "none"))):
                for _ in range(depth - 1):
                    thing = (thing,)
                text = "(" * depth + within + ")" * depth
                self.assertEqual(show(thing), text)
                self.assertEqual(show(read(text)), text)
        for depth in (81, 82, 100, 200):
            self.assert_refused("(" * depth + ")" * depth, 80)
            self.assert_refused("(" * depth + "1" + ")" * depth, 80)
        self.assert_refused("(" * 80, 80)
        self.assert_refused("(1 " * 81, 240)
        self.assert_refused("(" * 80 + ")" * 79, 159)
        self.assert_refused("(" * 80 + ")" * 81, 160)
        self.assert_refused("(" * 80 + "1 (" + ")" * 81, 82)
        # Brackets that were closed don't count.
        self.assertEqual(read("(" * 79 + "() " * 100 + "()" + ")" * 79), read("(" * 79 + "() " * 100 + "()" + ")" * 79))

    def test_told_in_the_issue(self):
        for text, n in (("", 0), ("-0", 1), ("00", 1), ("01", 1), ("-01", 1), ("( 1)", 1), ("(1 )", 3), ("(1  2)", 3),
                        ("()()", 2), ("() ", 2), ("1 ", 1), ("1 2", 1), ("1)", 1), (")", 0), (" ", 0), (" 1", 0),
                        ("(", 1), ("(1", 2), ("(1 ", 3), ("(- ", 3), ("(-", 2), ("(-0)", 2), ("--", 1), ("-a", 1),
                        ("a1", 1), ("1a", 1), ("1-", 1), ("A", 0), ("aA", 1), ("(A)", 1), ("None", 0), ("\n", 0),
                        ("1\n", 1), ("()\n", 2), ("(1\n2)", 2), ("+1", 0), ("1.0", 1), ("(1,2)", 2), ("(1,)", 2),
                        ("'a'", 0), ("~", 0), ("a_b", 1), ("(()", 3), ("())", 2), ("(()1)", 3), ("(1())", 2),
                        ("(a()", 2), ("(-()", 2), ("((1)", 4), ("(1 2", 4), ("(1 2 )", 5), ("(0 00)", 4)):
            self.assert_refused(text, n)

    def test_sixty_figures_and_more(self):
        self.assertEqual(read("7" * 60), int("7" * 60))
        self.assertEqual(read("-" + "7" * 60), -int("7" * 60))
        for many in (61, 62, 100, 5000):
            self.assert_refused("7" * many, 60)
            self.assert_refused("-" + "7" * many, 61)
            self.assert_refused("(1 " + "7" * many + ")", 63)

    def test_eight_letters_and_more(self):
        self.assertEqual(read("abcdefgh"), "abcdefgh")
        for many in (9, 10, 100):
            self.assert_refused("q" * many, 8)
            self.assert_refused("(1 " + "q" * many + ")", 11)

    def test_each_beginning(self):
        for _, text in THINGS:
            for n in range(len(text)):
                self.assert_as_told(text[:n])

    def test_bent_at_each_place(self):
        signs = "() -019azAZ\n~+*,^_"
        with soon(60):
            for _, text in THINGS:
                for at in range(len(text) + 1):
                    self.assert_as_told(text[:at] + text[at + 1:])
                    for sign in signs:
                        self.assert_as_told(text[:at] + sign + text[at:])
                        self.assert_as_told(text[:at] + sign + text[at + 1:])

    def test_all_short_texts(self):
        with soon(60):
            for many in range(6):
                for signs in itertools.product("() -01a", repeat=many):
                    self.assert_as_told("".join(signs))

    def test_soon(self):
        with soon():
            text = "(" + " ".join(["(1 (a -) -99999)"] * 20000) + ")"
            self.assertEqual(show(read(text)), text)
            for wrong in ("(" * 10 ** 5, "9" * 10 ** 5, "(1 " * 10 ** 5, "a" * 10 ** 5, " " * 10 ** 5):
                with self.assertRaises(NoText):
                    read(wrong)


if __name__ == "__main__":
    unittest.main()
