"""Faults: each by its why and its line, which one goes first, what was told ahead."""

import unittest

from tugline.plain import run

NINES = "9" * 60
GREAT = 10 ** 60 - 1


def text(*rows):
    return "\n".join(rows)


class FaultCase(unittest.TestCase):
    def fault(self, why, line, *rows, told=(), way=None, setting=None):
        result = run(text(*rows), setting=setting)
        self.assertEqual(result[:2], (told, ("fault", why, line)), rows)
        if way is not None:
            self.assertEqual(result[2], way)

    def part(self, why, part, way=None):
        """A part that brings a fault in a text where a list and some numbers have names."""
        rows = ("def id a", "  back a", "l = [ 1 , !2 ]", "k = 5", "f = !5", "tell !8", "x = " + part, "back 0")
        self.fault(why, 6, *rows, told=(8,), way=way)

    def sound(self, part):
        rows = ("def id a", "  back a", "l = [ 1 , !2 ]", "k = 5", "f = !5", "x = " + part, "back 0")
        self.assertEqual(run(text(*rows))[1], ("back", 0), part)


class Kind(FaultCase):
    def test_numbers_for_lists_and_lists_for_numbers(self):
        for part in ("l + 1", "1 + l", "l + [ ] + 1", "1 - l", "l - 1", "l - l", "l * 2", "!2 * l", "l * l", "l // !2",
                     "!2 // l", "!2 rest l", "l rest !2", "[ l ]", "[ 1 , [ ] ]", "k [ 0 ]", "f [ 0 ]", "l [ l ]",
                     "l [ [ ] ]", "len k", "len x", "x [ 0 ]", "id ( l ) - 1", "id ( 1 ) + l"):
            self.part("kind", part, ())

    def test_no_fault(self):
        for part in ("l + l", "l + [ ]", "[ ]", "[ k , f ]", "len l", "id ( l )", "id ( l ) + l", "l [ 0 ] + 1"):
            self.sound(part)

    def test_at_tell_back_tests_and_each(self):
        self.fault("kind", 1, "tell 1", "tell [ ]", "back 0", told=(1,))
        self.fault("kind", 0, "back [ 1 ]")
        self.fault("kind", 1, "if 1 < 2", "  back [ ]", "back 0")
        for sign in ("<", "<=", "=="):
            for test in ("[ ] {} 1", "1 {} [ ]", "[ ] {} [ ]", "!1 {} [ ]"):
                for word in ("if", "while"):
                    self.fault("kind", 1, "tell 1", word + " " + test.format(sign), "  tell 2", "back 0", told=(1,), way=())
        self.fault("kind", 0, "each x in 5", "  tell 1", "back 0")
        self.fault("kind", 1, "x = !5", "each x in x", "  tell 1", "back 0")

    def test_a_def_may_go_back_with_a_list(self):
        self.fault("kind", 3, "def f", "  back [ 1 ]", "x = f ( )", "tell f ( )", "back 0")
        self.fault("kind", 2, "def f", "  back [ 1 ]", "back f ( )")


class Bent(FaultCase):
    def test_products_of_two_held_ones(self):
        for part in ("1 * 2", "k * k", "k * 0", "k * ( k - k )", "l [ !0 ] * k", "( k * !0 ) * k", "( k rest !2 ) * k",
                     "id ( k ) * k"):
            self.part("bent", part)
        for part in ("k * f", "f * k", "f * f", "k * len l", "l [ !1 ] * k", "k * ( k // !2 )", "( k // !2 ) * k"):
            self.sound(part)

    def test_quotients_and_rests_by_a_held_one(self):
        for part in ("1 // 2", "!1 // 2", "!1 // 0", "f rest k", "k rest k", "f // ( k * !0 )", "f // ( k rest !2 )"):
            self.part("bent", part, () if "rest !2" not in part else ((6, 2),))
        for part in ("1 // !2", "f // ( k // !2 )", "f rest len l", "k rest f"):
            self.sound(part)


class Nought(FaultCase):
    def test_below_one(self):
        for divisor in ("!0", "!-1", "( !1 - !1 )", "( f - !6 )", "y"):
            for number in ("k", "f"):
                for sign in ("//", "rest"):
                    self.part("nought", "%s %s %s" % (number, sign, divisor), ())
        for part in ("k // !1", "f rest !1", "l [ 0 ] // l [ !1 ]"):
            self.sound(part)


class Steep(FaultCase):
    def test_sums_and_differences(self):
        self.part("steep", "k + !" + NINES)
        self.part("steep", "!" + NINES + " + k")
        self.part("steep", "k - !" + NINES)
        self.part("steep", "k - !-" + NINES)
        self.part("steep", "k * !" + NINES + " + k")
        self.part("steep", "k * !" + NINES + " - k")
        near = str(GREAT - 1)
        for part in ("k + !" + near, "!-" + near + " - k", "k * !" + NINES, "!-" + NINES + " * k", "k + k - k", "k - !" + near):
            self.sound(part)

    def test_products(self):
        half = str(10 ** 30)
        self.part("steep", "k * !" + half + " * !" + half)
        self.sound("k * !" + half + " * !" + str(10 ** 30 - 1))
        self.part("steep", "( k + k ) * !" + NINES)
        # The reach counts, not the number: here it would be 0.
        self.part("steep", "( k - k ) * !" + NINES)
        self.part("steep", "k * !" + NINES + " - k * !" + NINES)
        self.sound("( k * !0 ) * !" + NINES)
        self.sound("( k * !0 ) + !" + NINES)
        self.part("steep", "( k * !0 + !" + NINES + " ) + !1")

    def test_a_rest_has_the_reach_of_what_is_divided(self):
        self.sound("( k rest !3 ) * !" + NINES)
        self.part("steep", "( ( k + k ) rest !3 ) * !" + NINES)
        self.sound("( !7 rest !3 ) * !" + NINES[:-1])

    def test_a_held_number_may_be_as_great_as_it_is(self):
        many = 10 ** 75
        result = run(text("tell 1 + 2", "tell 1 * !" + NINES, "back 2 - 1"), setting=[many, many, many, 0, -many])
        self.assertEqual(result[0], (2 * many, many * GREAT))
        self.assertEqual(result[1], ("back", many))

    def test_the_reach_of_each_number_of_a_list(self):
        self.fault("steep", 2, "x = [ 1 + 2 , !1 , 3 ]", "tell x [ !2 ] * !" + NINES, "tell x [ !0 ] * !" + NINES,
                   "back 0", told=(3 * GREAT,))


class Great(FaultCase):
    def test_numbers_that_are_not_held(self):
        self.part("great", "!" + NINES + " + !1")
        self.part("great", "!-" + NINES + " - !1")
        self.part("great", "!" + NINES + " * !2")
        self.part("great", "!" + NINES + " * !-2")
        self.part("great", "!1" + "0" * 30 + " * !1" + "0" * 30)
        for part in ("!" + NINES + " + !0", "!" + NINES + " - !1", "!1" + "0" * 30 + " * !1" + "0" * 29, "!" + NINES + " // !1",
                     "!-" + NINES + " rest !" + NINES, "!" + NINES + " - !" + NINES):
            self.sound(part)

    def test_of_a_quotient_its_turn_ahead(self):
        rows = ("tell 1", "x = ( 5 * !10 ) // !1", "back x")
        self.fault("great", 1, *rows, told=(1,), setting=[1, 10 ** 59], way=((1, 10 ** 60),))
        self.fault("great", 1, *rows, told=(1,), setting=[1, -(10 ** 59)], way=((1, -(10 ** 60)),))
        result = run(text(*rows), setting=[1, 10 ** 58])
        self.assertEqual(result[1:3], (("back", 10 ** 59), ((1, 10 ** 59),)))

    def test_a_rest_asks_no_great(self):
        result = run(text("x = ( 5 * !10 ) rest !7", "back x"), setting=[10 ** 59])
        self.assertEqual(result[1], ("back", 10 ** 60 % 7))
        self.assertEqual(result[2], ((0, 10 ** 60 // 7),))
        wide = run(text("x = ( 5 * !10 ) rest !1", "back x"), setting=[10 ** 59])
        self.assertEqual(wide[1:3], (("back", 0), ((0, 10 ** 60),)))


class Place(FaultCase):
    def test_no_cell_of_that_number(self):
        for part in ("l [ !2 ]", "l [ !-1 ]", "l [ f ]", "l [ len l ]", "l [ !-2 ]"):
            self.part("place", part, ())
        self.part("place", "l [ 2 ]", ((6, "beyond"),))
        self.part("place", "l [ k ]", ((6, "beyond"),))
        self.part("place", "l [ -1 ]", ((6, "below"),))
        for part in ("l [ !0 ]", "l [ 1 ]", "l [ len l - !1 ]"):
            self.sound(part)
        self.fault("place", 1, "x = [ ]", "back x [ !0 ]")


class Long(FaultCase):
    def test_more_than_sixty(self):
        rows = ("x = [ 1 , 2 , 3 , 4 , 5 ] + [ !1 ]", "x = x + x + x + x + x")
        self.fault("long", 3, *rows, "tell len x", "x = x + x + [ !1 ]", "back 0", told=(30,))
        self.fault("long", 2, *rows, "each y in x + x + [ 9 ]", "  tell y", "back 0")
        result = run(text(*rows, "x = x + x", "back len x"))
        self.assertEqual(result[1], ("back", 60))


class Deep(FaultCase):
    def test_thirteen_calls(self):
        rows = ("def f n", "  tell n", "  if n <= !1", "    back !1", "  back !1 + f ( n - !1 )")
        result = run(text(*rows, "back f ( !12 )"))
        self.assertEqual(result[1], ("back", 12))
        self.fault("deep", 4, *rows, "back f ( !13 )", told=tuple(range(13, 1, -1)))

    def test_operands_of_a_call_go_ahead(self):
        rows = ("def f n", "  back f ( g )", "back f ( 0 )")
        self.fault("deep", 1, *rows)
        rows = ("def f n", "  if n <= !1", "    back f ( [ [ ] ] )", "  back f ( n - !1 )", "back f ( !12 )")
        self.fault("kind", 2, *rows)

    def test_calls_that_are_operands_are_closed(self):
        rows = ["def f n", "  back n + !1", "def g n", "  if n <= !1", "    back f ( f ( !0 ) )", "  back g ( n - !1 )"]
        self.assertEqual(run(text(*rows, "back g ( !11 )"))[1], ("back", 2))
        self.fault("deep", 4, *rows, "back g ( !12 )")


class Lines(FaultCase):
    def test_in_a_call_the_line_of_the_def(self):
        rows = ("def f a", "  tell a", "  x = a", "  back x // !0", "tell 7", "back f ( 8 )")
        self.fault("nought", 3, *rows, told=(7, 8))

    def test_behind_a_call_the_line_of_the_caller(self):
        rows = ("def f a", "  tell a", "  back a", "tell 7", "x = f ( 8 ) // !0", "back x")
        self.fault("nought", 4, *rows, told=(7, 8))

    def test_at_a_later_look(self):
        self.fault("nought", 0, "while !10 // ( !3 - x ) < !99", "  x = x + !1", "  tell x", "back 0", told=(1, 2, 3))
        self.fault("kind", 0, "if x + [ ] < 1", "  tell 1", "else", "  tell 2", "back 0")

    def test_lines_begun(self):
        result = run(text("tell 1", "x = 1 // !0", "back 0"))
        self.assertEqual(result, ((1,), ("fault", "nought", 1), (), 2))

    def test_nothing_of_the_line_is_done(self):
        self.fault("nought", 1, "tell 1", "tell !5 // !0", "back 0", told=(1,))


class TwoAreDue(FaultCase):
    def test_the_first_named_of_one_operation(self):
        self.part("kind", "[ ] * k")
        self.part("kind", "l // k")
        self.part("kind", "l // !0")
        self.part("kind", "k // l")
        self.part("bent", "k // 0")
        self.part("bent", "f rest ( k - 5 )")
        # Bent goes ahead of steep, nought ahead of a turn.
        self.part("bent", "( k * !" + NINES + " ) * k")
        self.part("nought", "k rest !0", ())
        self.part("kind", "k [ [ ] ]")
        self.part("kind", "f [ 9 ]", ())

    def test_operands_from_the_left(self):
        self.part("nought", "( !1 // !0 ) + ( k * k )")
        self.part("bent", "( k * k ) + ( !1 // !0 )")
        self.part("kind", "( l - 1 ) + ( !1 // !0 )")
        self.part("place", "l [ !9 ] + l")
        self.part("nought", "id ( !1 // !0 ) * ( k * k )")

    def test_operands_ahead_of_the_operation(self):
        self.part("nought", "[ l , !1 // !0 ]")
        self.part("nought", "l * ( !1 // !0 )")
        self.part("nought", "k [ !1 // !0 ]")
        self.part("place", "l + l [ !2 ]")
        self.part("bent", "[ l , k * k ]")
        self.fault("nought", 0, "if [ ] < !1 // !0", "  tell 1", "back 0")
        self.fault("kind", 0, "while [ ] < 1", "  tell 1", "back 0")

    def test_turns_of_operands_stay(self):
        self.part("bent", "( k // !2 ) + l [ 1 ] + k * k", ((6, 2), (6, 1)))
        self.part("kind", "[ l , k // !2 ]", ((6, 2),))
        self.part("kind", "l - k // !2", ((6, 2),))
        self.part("kind", "k [ k rest !2 ]", ((6, 2),))


if __name__ == "__main__":
    unittest.main()
