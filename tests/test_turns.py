"""Turns: which operations are one, what comes out, and the way."""

import unittest

from tugline.plain import run


def text(*rows):
    return "\n".join(rows)


class TurnCase(unittest.TestCase):
    def way(self, way, *rows, **more):
        self.assertEqual(run(text(*rows), **more)[2], way)

    def outs(self, outs, part, ahead=()):
        """What comes out in the line of a part, the last but one."""
        way = run(text(*ahead, "x = " + part, "back 0"))[2]
        self.assertEqual(way, tuple((len(ahead), out) for out in outs))


class Tests(TurnCase):
    def test_less(self):
        for word in ("if", "while"):
            for one, other, out in ((1, 2, "yes"), (2, 2, "no"), (3, 2, "no"), (-3, -2, "yes")):
                for left, right in (("", ""), ("!", ""), ("", "!")):
                    self.way(((0, out),), "%s %s%d < %s%d" % (word, left, one, right, other), "  back 0", "back 0")
                self.way((), "%s !%d < !%d" % (word, one, other), "  back 0", "back 0")

    def test_at_most(self):
        for one, other, out in ((1, 2, "yes"), (2, 2, "yes"), (3, 2, "no"), (0, -1, "no")):
            for left, right in (("", ""), ("!", ""), ("", "!")):
                self.way(((0, out),), "if %s%d <= %s%d" % (left, one, right, other), "  back 0", "back 0")

    def test_equal(self):
        for one, other, out in ((1, 2, "less"), (2, 2, "same"), (3, 2, "more"), (-3, 2, "less")):
            for left, right in (("", ""), ("!", ""), ("", "!")):
                rows = ("if %s%d == %s%d" % (left, one, right, other), "  tell 1", "back 0")
                self.way(((0, out),), *rows)
                self.assertEqual(run(text(*rows))[0], (1,) if out == "same" else ())

    def test_at_each_look(self):
        self.way(((0, "yes"), (0, "yes"), (0, "no")), "while x < 2", "  x = x + !1", "back 0")
        self.way((), "while x < !2", "  x = x + !1", "back 0")
        self.way(((0, "no"), (3, "same")), "if 2 < 1", "  tell 1", "else", "  if 3 == 3", "    tell 1", "back 0")


class Cells(TurnCase):
    ahead = ("l = [ 5 , !6 , 7 ]",)

    def test_cells(self):
        for place, out in ((0, 0), (1, 1), (2, 2), (3, "beyond"), (99, "beyond"), (-1, "below"), (-3, "below")):
            self.outs((out,), "l [ %d ]" % place, self.ahead)
            self.outs((), "l [ !%d ]" % place, self.ahead)
        self.outs(("beyond",), "y [ 0 ]", ("y = [ ]",))
        self.outs(("below",), "y [ -1 ]", ("y = [ ]",))

    def test_what_is_held_in_the_cell_does_not_matter(self):
        self.outs((1,), "l [ 1 ]", self.ahead)
        self.outs((), "l [ len l - !3 ]", self.ahead)

    def test_held_by_an_operation(self):
        self.outs((1,), "l [ 5 - 4 ]", self.ahead)
        self.outs((0,), "l [ 5 * !0 ]", self.ahead)
        self.outs((2, 1), "l [ 5 // !2 - 1 ]", self.ahead)


class Quotients(TurnCase):
    def test_of_a_held_one(self):
        for number, divisor, out in ((7, 2, 3), (-7, 2, -4), (0, 5, 0), (4, 5, 0), (-1, 5, -1)):
            for sign in ("//", "rest"):
                self.outs((out,), "%d %s !%d" % (number, sign, divisor))
                self.outs((), "!%d %s !%d" % (number, sign, divisor))

    def test_a_quotient_is_not_held_but_a_rest_is(self):
        self.outs((3,), "( 7 // !2 ) // !2")
        self.outs((3, 0), "( 7 rest !2 ) // !2")
        self.outs((3, 0), "( 7 rest !2 ) rest !2")
        self.way(((0, 3),), "if 7 // !2 < !5", "  tell 1", "back 0")
        self.way(((0, 3), (0, "yes")), "if 7 rest !2 < !5", "  tell 1", "back 0")

    def test_a_test_of_which_one_is_a_quotient(self):
        self.way(((0, 3), (0, "no")), "if 7 // !2 < 3", "  tell 1", "back 0")


class Held(TurnCase):
    def held(self, part, is_held, ahead=()):
        way = run(text(*ahead, "x = " + part, "if x < !5", "  tell 1", "back 0"))[2]
        self.assertEqual(len(ahead) + 1 in [line for line, out in way], is_held, part)

    def test_what_is_held(self):
        for part in ("1", "1 + !1", "!1 + 1", "!1 - 1", "1 - !1", "1 * !1", "!0 * 1", "k - k", "k * !0", "k rest !3", "l [ !0 ]"):
            self.held(part, True, ("k = 4", "l = [ 4 , !4 ]"))
        for part in ("!1", "!1 + !1", "len l", "k // !3", "!7 rest !3", "l [ !1 ]", "l [ 1 ]", "y", "( k // !1 ) * !2"):
            self.held(part, False, ("k = 4", "l = [ 4 , !4 ]"))

    def test_through_calls_lists_and_each(self):
        self.way(((1, "yes"), (4, 2)), "def f a", "  if a < !3", "    back 0", "  back a", "x = f ( 2 ) + 4 // !2", "back x")
        self.way(((1, "yes"), (1, "no")), "each x in [ 1 , !2 , 3 ]", "  if x < !2", "    tell x", "back 0")


class Way(TurnCase):
    def test_in_the_order_of_the_run(self):
        self.way(
            ((3, "yes"), (1, 2), (4, 2), (1, 4), (5, 0)),
            "def f a",
            "  b = a // !2",
            "  back b",
            "if 1 < 2",
            "  x = f ( 4 ) + 5 // !2 + f ( 9 )",
            "  y = 3 rest !7",
            "back x",
        )

    def test_operands_ahead_and_from_the_left(self):
        self.outs((3, 2, 1, 0), "[ 7 // !2 , 5 // !2 , 3 // !2 , 1 // !2 ]")
        self.way(((0, 3), (0, 2), (0, "more")), "if 7 rest !2 == 4 rest !2", "  tell 1", "back 0")

    def test_a_turn_stays_ahead_of_its_fault(self):
        self.way(((1, 0), (1, "beyond")), "l = [ 1 ]", "x = l [ 0 ] + l [ 1 ]", "back 0")

    def test_steps_cut_the_way(self):
        rows = ("while x < 2", "  x = x + !1", "back 0")
        self.way(((0, "yes"),), *rows, steps=2)
        self.way(((0, "yes"), (0, "yes")), *rows, steps=3)
        self.way((), *rows, steps=0)

    def test_by_the_setting(self):
        rows = ("if 1 < 2", "  x = 7 // !2", "back x")
        self.way(((0, "yes"), (1, 3)), *rows)
        self.way(((0, "no"),), *rows, setting=[2, 2, 7])
        self.way(((0, "yes"), (1, -4)), *rows, setting=[1, 2, -7])


if __name__ == "__main__":
    unittest.main()
