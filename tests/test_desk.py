"""Point 45: the desk."""

import unittest

from rootprime.books import answers
from rootprime.desk import Desk
from rootprime.errors import NoRow, NoText
from tests.helper import KeptByHand, order_by_hand, soon

ROWS = ("ask", "shown", "steps", "tables", "look", "forget")


def state(desk):
    return tuple(desk.say(row) for row in ("shown", "steps", "tables", "look"))


class Says(unittest.TestCase):

    def refused(self, desk, row):
        before = state(desk)
        with self.assertRaises(NoRow, msg=row):
            desk.say(row)
        self.assertEqual(state(desk), before)

    def no_text(self, desk, row, word):
        before = state(desk)
        with self.assertRaises(NoText, msg=row) as caught:
            desk.say(row)
        self.assertEqual((caught.exception.line, caught.exception.word), (0, word), row)
        self.assertEqual(state(desk), before)

    def desks(self):
        """A desk that was asked nothing yet, and one that was asked something."""
        asked = Desk()
        asked.say("ask which 3 5 by 7")
        return [Desk(), asked]

    def test_ahead_of_all(self):
        desk = Desk()
        self.assertEqual(desk.say("shown"), "-")
        self.assertEqual(desk.say("tables"), "-")
        self.assertEqual(desk.say("steps"), "0")
        self.assertEqual(desk.say("look"), "good")
        self.assertEqual(desk.say("forget"), "ok")
        self.assertEqual(state(desk), ("-", "0", "-", "good"))

    def test_each_row(self):
        desk = Desk()
        self.assertEqual(desk.say("ask which 3 5 by 7"), "5")
        self.assertEqual(desk.say("shown"), "(((7 3 (((2 1 ()) 1) ((3 2 (((2 1 ()) 1))) 1)))) (by ((6 5))))")
        self.assertEqual(desk.say("steps"), "7")
        self.assertEqual(desk.say("tables"), "7,2,6 7,3,2")
        self.assertEqual(desk.say("look"), "good")
        self.assertEqual(desk.say("ask prime 91"), "no")
        self.assertEqual(desk.say("shown"), "(() (7))")
        self.assertEqual(desk.say("shown"), "(() (7))")
        self.assertEqual(desk.say("steps"), "7")
        self.assertEqual(desk.say("forget"), "ok")
        self.assertEqual(state(desk), ("-", "0", "-", "good"))
        self.assertEqual(desk.say("ask which 3 5 by 7"), "5")
        self.assertEqual(desk.say("steps"), "7")

    def test_what_is_told(self):
        desk = Desk()
        for line in ("prime 7", "prime 12", "part 360", "squares 25", "squares 21", "order 3 by 5*7", "order 5 by 5*7",
                     "power 3 4 by 5*7", "roots 2 4 by 5*7", "roots 2 3 by 5*7", "roots 408 1 by 409",
                     "which 3 27 by 5*7",
                     "which 3 6 by 5*7", "which 5 3 by 5*7", "which 13 5 by 71850239"):
            answer, = answers(line)
            told = desk.say("ask " + line)
            self.assertEqual((told, desk.say("shown")), answer[1:])
            self.assertIs(type(told), str)
            self.assertEqual(desk.say("look"), "good")

    def test_lines_that_are_none(self):
        for desk in self.desks():
            for line, word in (("", 0), (" ", 0), ("prime", 1), ("prime x", 1), ("prime 7 7", 2), ("prime 7 ", 2),
                               (" prime 7", 0), ("prime  7", 1), ("ask prime 7", 0), ("order 3 by 9", 3),
                               ("order 3 by", 3),
                               ("which 3 5 by 7 7", 5), ("power 3 -1 by 7", 2), ("nothing", 0), ("prime 1", 1),
                               ("shown", 0),
                               ("prime 1000000001", 1), ("which 3 5 by 7*5", 4)):
                self.no_text(desk, "ask " + line, word)

    def test_a_line_feed_is_a_sign_like_others(self):
        for desk in self.desks():
            for line, word in (("\n", 0), ("prime 7\n", 1), ("\nprime 7", 0), ("prime\n7", 0), ("prime 7\nprime 5", 1),
                               ("prime 7 \n", 2), ("order 3 by 5*7\n", 3), ("order 3 by\n5", 2), ("order 3\nby 5", 1),
                               ("prime 7\n" * 70, 1)):
                self.no_text(desk, "ask " + line, word)

    def test_rows_that_are_none(self):
        for desk in self.desks():
            for row in ROWS[1:]:
                for wrong in (row + " ", " " + row, row + " 7", row + "\n", "\n" + row, row.upper(), row.title(),
                              row[:-1],
                              row + row, row + " " + row, row + "s"):
                    self.refused(desk, wrong)
            for wrong in ("", " ", "ask", " ask", "ask\n", "Ask prime 7", "ASK prime 7", " ask prime 7", "askprime 7",
                          "ask\nprime 7", "asks prime 7", "prime 7", "\n", "7", "-", "good", "ok", "say shown"):
                self.refused(desk, wrong)

    def test_what_is_refused_or_none_uses_nothing(self):
        desk = self.desks()[1]
        before = state(desk)[1:]
        for line, told in (("which 7 5 by 7", "nought"), ("which 2 3 by 7", "none"), ("order 7 by 7", "nought"),
                           ("which 13 5 by 71850239", "far 35925119"), ("roots 408 1 by 409", "many 408"),
                           ("roots 3 6 by 7", "3 5 6")):
            self.assertEqual(desk.say("ask " + line), told)
            self.assertEqual(state(desk)[1:], before)
            self.assertEqual(desk.say("shown"), answers(line)[0][2])

    def test_steps_and_tables_as_a_kept_of_eight(self):
        desk, right = Desk(), KeptByHand(8)
        seen = set()
        for turn in range(3):
            for p, b in ((7, 3), (11, 2), (13, 2), (31, 3), (7, 3), (7, 2), (43, 3), (71, 7), (211, 2), (7, 3),
                         (331, 3)):
                self.assertEqual(desk.say(f"ask which {b} {b ** 5} by {p}"), str(5 % order_by_hand(p, b)))
                right.ask(p, b, b ** 5)
                self.assertEqual(desk.say("steps"), str(right.steps))
                self.assertEqual(desk.say("tables"), " ".join(f"{p},{q},{w}" for p, q, w in right.tables))
                seen.add(len(right.tables))
        self.assertEqual(max(seen), 8)

    def test_several_primes(self):
        desk, right = Desk(), KeptByHand(8)
        for b, a, primes in ((3, 27, (5, 7)), (3, 6, (5, 7)), (3, 27, (5, 7)), (2, 2 ** 17, (3, 5, 7, 11, 13))):
            desk.say(f"ask which {b} {a} by {'*'.join(str(p) for p in primes)}")
            for p in primes:
                right.ask(p, b, a)
            self.assertEqual(desk.say("steps"), str(right.steps))
            self.assertEqual(desk.say("tables"), " ".join(f"{p},{q},{w}" for p, q, w in right.tables))

    def test_forget(self):
        desk = self.desks()[1]
        desk.say("ask which 2 3 by 11")
        self.assertEqual(desk.say("forget"), "ok")
        self.assertEqual(state(desk), state(Desk()))
        self.assertEqual(desk.say("forget"), "ok")
        other = Desk()
        for row in ("ask which 3 5 by 7", "ask which 3 4 by 7"):
            self.assertEqual(desk.say(row), other.say(row))
            self.assertEqual(state(desk), state(other))

    def test_two_desks_know_nothing_of_each_other(self):
        one, other = Desk(), Desk()
        one.say("ask which 3 5 by 7")
        self.assertEqual(state(other), ("-", "0", "-", "good"))
        other.say("ask which 2 3 by 11")
        self.assertEqual(one.say("tables"), "7,2,6 7,3,2")
        other.say("forget")
        self.assertEqual((one.say("steps"), one.say("tables")), ("7", "7,2,6 7,3,2"))

    def test_it_looks_at_all_its_answers(self):
        # The answers are kept, the wrong one too that is laid there by hand.
        for at in range(3):
            desk = Desk()
            for line in ("prime 7", "prime 11", "which 3 5 by 7"):
                desk.say("ask " + line)
            desk.answered[at] = desk.answered[at][:1] + ("wrong",) + desk.answered[at][2:]
            self.assertEqual(desk.say("look"), str(at))
            desk.say("forget")
            self.assertEqual(desk.say("look"), "good")

    def test_soon(self):
        desk = Desk()
        with soon(20):
            for n in range(2, 600):
                desk.say(f"ask squares {n}")
                desk.say(f"ask which 2 {n} by 998244353")
            self.assertEqual(desk.say("look"), "good")


if __name__ == "__main__":
    unittest.main()
