"""run: what a run tells, its end, how many lines it began; names, calls, loops."""

import unittest

from tugline.errors import NoKnob
from tugline.plain import run

GREAT = 10 ** 60 - 1


def text(*rows):
    return "\n".join(rows)


class RunCase(unittest.TestCase):
    def tells(self, source, *told, end=None, **more):
        """The run tells just these; of no end it is a back."""
        result = run(source, **more)
        self.assertEqual(result[0], told)
        if end is None:
            self.assertEqual(result[1][0], "back", result)
        else:
            self.assertEqual(result[1], end)

    def backs(self, number, source, **more):
        self.assertEqual(run(source, **more)[1], ("back", number))

    def part(self, number, part):
        """A part comes to a number, held or not."""
        self.backs(number, "back " + part)


class Told(RunCase):
    def test_kinds_of_what_is_told(self):
        result = run(text("tell 4", "if 1 < 2", "  tell !5", "back 6"))
        self.assertEqual(result, ((4, 5), ("back", 6), ((1, "yes"),), 4))
        for thing in (result, result[0], result[1], result[2], result[2][0]):
            self.assertIs(type(thing), tuple)
        for thing in (*result[0], result[1][1], result[2][0][0], result[3]):
            self.assertIs(type(thing), int)

    def test_nothing_told(self):
        self.assertEqual(run("back 1"), ((), ("back", 1), (), 1))

    def test_by_the_names_shown(self):
        self.assertEqual(run(text="back 1", setting=[4], steps=1), ((), ("back", 4), (), 1))
        with self.assertRaises(TypeError):
            run("back 1", [4])
        with self.assertRaises(TypeError):
            run("back 1", None, 4)

    def test_lines_behind_a_back_are_not_run(self):
        self.assertEqual(run(text("tell 1", "back 2", "tell 3", "back 4")), ((1,), ("back", 2), (), 2))


class Setting(RunCase):
    source = text("tell 1", "tell !2", "back 3 - 4")

    def test_as_written_or_set(self):
        self.assertEqual(run(self.source)[:2], ((1, 2), ("back", -1)))
        self.assertEqual(run(self.source, setting=None)[:2], ((1, 2), ("back", -1)))
        self.assertEqual(run(self.source, setting=[7, 8, 10])[:2], ((7, 2), ("back", -2)))
        self.assertEqual(run(self.source, setting=[GREAT, -GREAT, GREAT])[:2], ((GREAT, 2), ("back", -2 * GREAT)))
        self.assertEqual(run("back !1", setting=[])[1], ("back", 1))

    def test_too_few_and_too_many(self):
        for setting in ([], [1], [1, 2], [1, 2, 3, 4], [0] * 30):
            with self.assertRaises(NoKnob) as caught:
                run(self.source, setting=setting)
            self.assertEqual(caught.exception.number, 3)
        with self.assertRaises(NoKnob) as caught:
            run("back !1", setting=[1], steps=0)
        self.assertEqual(caught.exception.number, 0)

    def test_what_is_handed_in_stays(self):
        setting = [5, 6, 7]
        run(self.source, setting=setting)
        self.assertEqual(setting, [5, 6, 7])


class Parts(RunCase):
    def test_numbers(self):
        for number in (0, 1, -1, 10, GREAT, -GREAT):
            self.part(number, str(number))
            self.part(number, "!" + str(number))

    def test_from_the_left(self):
        self.part(4, "10 - 4 - 2")
        self.part(12, "10 - -4 + -2")
        self.part(14, "2 + !3 * !4")
        self.part(20, "( 2 + 3 ) * !4")
        self.part(6, "20 // !3 * !1")
        self.part(4, "!2 * !7 rest !10")
        self.part(14, "!2 * ( !7 rest !10 )")
        self.part(2, "!100 // !7 // !6")
        self.part(-4, "2 - ( 10 - 4 )")

    def test_quotients_and_rests(self):
        for mark in ("", "!"):
            for number, divisor in ((7, 2), (-7, 2), (-8, 2), (0, 3), (-1, 5), (1, 5), (5, 5), (-5, 5), (4, 1)):
                quotient, rest = 0, 0
                while quotient * divisor > number:
                    quotient -= 1
                while (quotient + 1) * divisor <= number:
                    quotient += 1
                rest = number - quotient * divisor
                self.part(quotient, "%s%d // !%d" % (mark, number, divisor))
                self.part(rest, "%s%d rest !%d" % (mark, number, divisor))
        self.part(-4, "-7 // !2")
        self.part(1, "-7 rest !2")

    def test_lists(self):
        self.backs(7, text("x = [ 5 , !6 , 7 ]", "back x [ 2 ]"))
        self.backs(5, text("x = [ 5 , !6 , 7 ]", "back x [ !0 ]"))
        self.backs(3, text("x = [ 5 , !6 , 7 ]", "back len x"))
        self.backs(0, text("x = [ ]", "back len x"))
        self.tells(text("x = [ 1 ] + [ ] + [ 2 , 3 ]", "each y in x", "  tell y", "back len x"), 1, 2, 3, end=("back", 3))
        self.tells(text("x = [ 1 ]", "y = x", "x = x + [ 2 ]", "tell len y", "tell len x", "back 0"), 1, 2)
        self.backs(2, text("x = [ 1 , 2 , 3 ]", "back x [ x [ 0 ] ]"))

    def test_a_list_of_sixty(self):
        seven = "[ 1 , 2 , 3 , 4 , 5 , 6 , 7 ]"
        self.backs(60, text("x = %s + %s + [ 8 ]" % (seven, seven), "x = x + x", "x = x + x + [ ]", "back len x"))

    def test_tests(self):
        for one, other in ((1, 2), (2, 1), (2, 2), (-1, 0)):
            for sign, holds in (("<", one < other), ("<=", one <= other), ("==", one == other)):
                for left, right in (("", ""), ("!", ""), ("", "!"), ("!", "!")):
                    test = "%s%d %s %s%d" % (left, one, sign, right, other)
                    self.tells(text("if " + test, "  tell 1", "else", "  tell 2", "back 0"), 1 if holds else 2)


class Names(RunCase):
    def test_zero_at_first(self):
        self.tells(text("tell x", "x = 5", "tell x", "back y"), 0, 5, end=("back", 0))

    def test_anew_in_each_call(self):
        source = text(
            "def f a",
            "  tell x",
            "  tell a",
            "  x = a + !1",
            "  a = !9",
            "  tell x",
            "  back x",
            "x = 5",
            "a = 6",
            "tell f ( 1 )",
            "tell f ( 2 )",
            "tell x",
            "back a",
        )
        self.tells(source, 0, 1, 2, 2, 0, 2, 3, 3, 5, end=("back", 6))

    def test_anew_in_a_call_of_itself(self):
        source = text(
            "def f n",
            "  m = n * !10",
            "  if n < 3",
            "    z = f ( n + !1 )",
            "  tell m",
            "  back m",
            "back f ( !0 )",
        )
        self.tells(source, 30, 20, 10, 0, end=("back", 0))

    def test_params_by_place(self):
        self.backs(1234, text("def f a b c d", "  back a * !1000 + b * !100 + c * !10 + d", "back f ( 1 , 2 , 3 , 4 )"))

    def test_a_def_called_like_a_name(self):
        self.backs(15, text("def f f", "  back f + !1", "f = 7", "f = f ( f ) + f", "back f"))

    def test_lists_in_and_out_of_calls(self):
        source = text(
            "def f a",
            "  a = a + [ 4 ]",
            "  back a",
            "x = [ 1 ]",
            "y = f ( f ( x ) )",
            "tell len x",
            "each z in f ( y )",
            "  tell z",
            "back len y",
        )
        self.tells(source, 1, 1, 4, 4, 4, end=("back", 3))


class Calls(RunCase):
    def test_within_calls_and_sums(self):
        source = text(
            "def f a",
            "  tell a",
            "  back a + !1",
            "def g a b",
            "  tell f ( a ) * !100",
            "  back f ( b ) - a",
            "back f ( 1 ) + g ( f ( 10 ) , f ( 20 ) ) * !2 + f ( 30 )",
        )
        self.tells(source, 1, 10, 20, 11, 1200, 21, 30, end=("back", 2 + 11 * 2 + 31))

    def test_operands_of_the_caller_stay(self):
        self.backs(1000 - 6 - 2, text("def f a", "  b = a + a", "  back b + ( a - a )", "back !1000 - f ( 3 ) - f ( 1 )"))

    def test_of_itself(self):
        source = text(
            "def fac n",
            "  if n <= !1",
            "    back !1",
            "  back n * fac ( n - !1 )",
            "back fac ( !5 )",
        )
        self.assertEqual(run(source), ((), ("back", 120), (), 1 + 4 * 2 + 2))

    def test_twelve_open(self):
        source = text(
            "def f n",
            "  if n <= !1",
            "    back !1",
            "  back !1 + f ( n - !1 )",
            "back f ( !12 )",
        )
        self.backs(12, source)

    def test_many_one_after_the_other(self):
        self.backs(40, text("def f n", "  back n + !1", "x = 0", "while x < 40", "  x = f ( x )", "back x"))

    def test_back_out_of_blocks(self):
        source = text(
            "def f a",
            "  each x in a",
            "    while x < 9",
            "      if x == 2",
            "        back !7",
            "      x = !9",
            "  back !8",
            "tell f ( [ 1 , 2 , 3 ] )",
            "tell f ( [ 1 , 3 ] )",
            "tell f ( [ 2 ] )",
            "back 0",
        )
        self.tells(source, 7, 8, 7)


class Blocks(RunCase):
    def test_if_and_else(self):
        source = text(
            "if 1 < 2",
            "  if 2 < 1",
            "    tell 1",
            "  else",
            "    tell 2",
            "    if 3 < 4",
            "      tell 3",
            "  tell 4",
            "else",
            "  tell 5",
            "if 2 < 1",
            "  tell 6",
            "tell 7",
            "back 0",
        )
        self.tells(source, 2, 3, 4, 7)
        self.assertEqual(run(source)[3], 9)

    def test_if_at_the_end_of_a_block(self):
        source = text(
            "while x < 3",
            "  x = x + !1",
            "  if x == 2",
            "    tell 20",
            "  else",
            "    if x == 1",
            "      tell 10",
            "back x",
        )
        self.tells(source, 10, 20, end=("back", 3))

    def test_while(self):
        source = text("while x < 3", "  tell x", "  x = x + 1", "back x")
        self.tells(source, 0, 1, 2, end=("back", 3))
        self.tells(text("while 2 < 1", "  tell 1", "back 0"), end=("back", 0))

    def test_each(self):
        source = text("x = 9", "each x in [ 4 , 5 , 6 ]", "  tell x", "  x = !0", "back x")
        self.tells(source, 4, 5, 6, end=("back", 0))
        self.tells(text("each x in [ 4 , 5 ]", "  tell !1", "back x"), 1, 1, end=("back", 5))
        self.tells(text("x = 9", "each x in [ ]", "  tell x", "back x"), end=("back", 9))

    def test_each_goes_over_the_list_of_the_first_look(self):
        source = text("y = [ 1 , 2 ]", "each x in y", "  y = y + [ x ]", "  tell len y", "back len y")
        self.tells(source, 3, 4, end=("back", 4))
        called = text("def f", "  tell 8", "  back [ 1 , 2 ]", "each x in f ( )", "  tell x", "back 0")
        self.tells(called, 8, 1, 2)
        self.tells(text("x = [ 1 , 2 ]", "each x in x", "  tell x", "back x"), 1, 2, end=("back", 2))

    def test_each_within_each(self):
        source = text(
            "y = [ 1 , 2 ]",
            "each a in y",
            "  each b in y",
            "    tell a * !10 + b",
            "  each b in [ ]",
            "    tell 0",
            "back a",
        )
        self.tells(source, 11, 12, 21, 22, end=("back", 2))

    def test_each_in_calls_of_itself(self):
        source = text(
            "def f n",
            "  each x in [ 1 , 2 ]",
            "    tell n * !10 + x",
            "    if n < !2",
            "      y = f ( n + !1 )",
            "  back x",
            "back f ( !1 )",
        )
        self.tells(source, 11, 21, 22, 12, 21, 22, end=("back", 2))


class Counted(RunCase):
    def many(self, count, *rows):
        result = run(text(*rows))
        self.assertEqual(result[1][0], "back")
        self.assertEqual(result[3], count)

    def test_each_line_once(self):
        self.many(1, "back 1")
        self.many(3, "x = 1", "tell x", "back 1")

    def test_else_and_def_count_none(self):
        self.many(3, "if 1 < 2", "  tell 1", "else", "  tell 2", "back 1")
        self.many(3, "if 2 < 1", "  tell 1", "else", "  tell 2", "back 1")
        self.many(2, "if 2 < 1", "  tell 1", "back 1")
        self.many(1, "def f", "  back 1", "def g", "  back 1", "back 1")

    def test_at_each_look(self):
        self.many(2, "while 2 < 1", "  tell 1", "back 1")
        self.many(1 + 3 * 2 + 1, "while x < 3", "  x = x + 1", "back 1")
        self.many(2, "each x in [ ]", "  tell 1", "back 1")
        self.many(1 + 3 * 2 + 1, "each x in [ 1 , 2 , 3 ]", "  tell 1", "back 1")

    def test_lines_of_calls(self):
        self.many(3, "def f", "  tell 1", "  back 1", "back f ( )")
        self.many(5, "def f", "  tell 1", "  back 1", "back f ( ) + f ( )")


class Steps(RunCase):
    source = text("tell 1", "each x in [ 2 , 3 ]", "  tell x", "back 4")

    def test_just_enough_and_one_fewer(self):
        whole = ((1, 2, 3), ("back", 4), (), 7)
        self.assertEqual(run(self.source, steps=7), whole)
        self.assertEqual(run(self.source, steps=8), whole)
        self.assertEqual(run(self.source, steps=6), ((1, 2, 3), ("fault", "steps", 3), (), 6))

    def test_each_number(self):
        ends = [(0, ()), (1, (1,)), (2, (1,)), (1, (1, 2)), (2, (1, 2)), (1, (1, 2, 3)), (3, (1, 2, 3))]
        for steps, (line, told) in enumerate(ends):
            self.assertEqual(run(self.source, steps=steps), (told, ("fault", "steps", line), (), steps))

    def test_in_a_call_its_line(self):
        source = text("def f", "  tell 1", "  back 2", "tell 0", "back f ( )")
        self.assertEqual(run(source, steps=0)[1:], (("fault", "steps", 3), (), 0))
        self.assertEqual(run(source, steps=2)[1:], (("fault", "steps", 1), (), 2))
        self.assertEqual(run(source, steps=3), ((0, 1), ("fault", "steps", 2), (), 3))
        self.assertEqual(run(source, steps=4)[1:], (("back", 2), (), 4))

    def test_lines_passed_over(self):
        source = text("if 2 < 1", "  tell 1", "else", "  tell 2", "back 1")
        self.assertEqual(run(source, steps=1)[1], ("fault", "steps", 3))
        self.assertEqual(run(source, steps=2)[1], ("fault", "steps", 4))

    def test_three_hundred_if_none_are_told(self):
        endless = text("while !1 < !2", "  x = x + !1", "back 1")
        self.assertEqual(run(endless)[1:], (("fault", "steps", 0), (), 300))
        self.assertEqual(run(endless, steps=1000)[3], 1000)
        self.assertEqual(run(endless, steps=999)[1], ("fault", "steps", 1))

    def test_a_fault_of_the_last_line_goes_ahead(self):
        source = text("tell 1", "back [ ]")
        self.assertEqual(run(source, steps=2)[1], ("fault", "kind", 1))
        self.assertEqual(run(source, steps=1)[1], ("fault", "steps", 1))


if __name__ == "__main__":
    unittest.main()
