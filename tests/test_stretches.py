"""stretch and border: ends of each kind, and the number just at either end and one beyond."""

import unittest

from tugline.errors import NoKnob, NoText
from tugline.plain import run
from tugline.sources import knobs
from tugline.stretches import border, stretch

GREAT = 10 ** 60 - 1
NO_TEXTS = ((None, 0), (True, 0), (7, 0), (["back 1"], 0), ("", 0), ("tell 1", 1), ("x = 1\nback", 1))
NO_KNOBS = (-1, 2, 99, GREAT, True, False, None, "0", "", (0,), [0], [[], ()])


def text(*rows):
    return "\n".join(rows)


def way(source, knob, number, steps=300):
    setting = knobs(source)
    setting[knob] = number
    return run(source, setting=setting, steps=steps)[2]


class StretchCase(unittest.TestCase):
    def stretches(self, source, knob, *rows, steps=300):
        """The stretches in a row: each of its least and its greatest one, rising and side by side."""
        for at, (least, greatest) in enumerate(rows):
            if at:
                self.assertEqual(rows[at - 1][1] + 1, least)
            ends = [end for end in (least, greatest) if end is not None]
            inside = [end + step for end in ends for step in (-2, -1, 0, 1, 2)] + ([] if ends else [-GREAT, 0, GREAT])
            for number in inside:
                if (least is None or least <= number) and (greatest is None or number <= greatest):
                    self.assertEqual(stretch(source, knob, number, steps=steps), (least, greatest), (source, number))
                    self.assertEqual(way(source, knob, number, steps), way(source, knob, inside[2] if ends else 0, steps))
                    if number != greatest:
                        self.assertIsNone(border(source, knob, number, steps=steps))
            if greatest is not None:
                self.assertNotEqual(way(source, knob, greatest, steps), way(source, knob, greatest + 1, steps))
                self.assertIsNotNone(border(source, knob, greatest, steps=steps))
            if least is not None:
                self.assertNotEqual(way(source, knob, least, steps), way(source, knob, least - 1, steps))


class Ends(StretchCase):
    def test_no_end(self):
        self.stretches("back 1", 0, (None, None))
        self.stretches(text("tell 1 + !5", "back 2"), 1, (None, None))
        # The knob goes in, and out again.
        self.stretches(text("a = 1", "if a < a + 2", "  tell 0", "back 0"), 0, (None, None))
        self.stretches(text("a = 1", "if a * !0 < !1", "  tell 0", "back 0"), 0, (None, None))
        # Never come to.
        self.stretches(text("if !1 < !0", "  x = 7 // !2", "back 0"), 0, (None, None))

    def test_of_less(self):
        self.stretches(text("if 5 < !7", "  tell 0", "back 0"), 0, (None, 6), (7, None))
        self.stretches(text("if !7 < 5", "  tell 0", "back 0"), 0, (None, 7), (8, None))
        self.stretches(text("if 5 < 7", "  tell 0", "back 0"), 0, (None, 6), (7, None))
        self.stretches(text("if 5 < 7", "  tell 0", "back 0"), 1, (None, 5), (6, None))

    def test_of_at_most(self):
        self.stretches(text("if 5 <= !7", "  tell 0", "back 0"), 0, (None, 7), (8, None))
        self.stretches(text("if !7 <= 5", "  tell 0", "back 0"), 0, (None, 6), (7, None))

    def test_of_equal(self):
        self.stretches(text("if 5 == !7", "  tell 0", "back 0"), 0, (None, 6), (7, 7), (8, None))
        self.stretches(text("if !-7 == 5", "  tell 0", "back 0"), 0, (None, -8), (-7, -7), (-6, None))

    def test_of_a_cell(self):
        self.stretches(text("l = [ !5 , !6 ]", "x = l [ 0 ]", "back x"), 0, (None, -1), (0, 0), (1, 1), (2, None))
        self.stretches(text("l = [ ]", "x = l [ 0 ]", "back x"), 0, (None, -1), (0, None))

    def test_of_quotients_and_rests(self):
        for sign in ("//", "rest"):
            source = text("x = 5 %s !3" % sign, "back x")
            self.assertEqual(stretch(source, 0, -7), (-9, -7))
            self.stretches(source, 0, *[(least, least + 2) for least in range(-9, 9, 3)])
        self.stretches("back 7 // !1", 0, (-1, -1), (0, 0), (1, 1))

    def test_many_times_a_knob(self):
        # Bounds that are no whole numbers, above nought and below, rising and falling.
        self.stretches(text("a = 1", "if a * !3 < !7", "  tell 0", "back 0"), 0, (None, 2), (3, None))
        self.stretches(text("a = 1", "if a * !3 < !6", "  tell 0", "back 0"), 0, (None, 1), (2, None))
        self.stretches(text("a = 1", "if a * !3 < !-7", "  tell 0", "back 0"), 0, (None, -3), (-2, None))
        self.stretches(text("a = 1", "if a * !-3 < !7", "  tell 0", "back 0"), 0, (None, -3), (-2, None))
        self.stretches(text("a = 1", "if a * !-3 < !-7", "  tell 0", "back 0"), 0, (None, 2), (3, None))
        self.stretches(text("a = 1", "x = ( a + a ) // !5", "back x"), 0, (-2, -1), (0, 2), (3, 4), (5, 7))
        self.stretches(text("a = 1", "x = !0 - a - a", "x = x // !5", "back x"), 0, (-2, 0), (1, 2), (3, 5))
        # Never met: a number twice over is seven.
        self.stretches(text("a = 1", "if a + a == !7", "  tell 0", "back 0"), 0, (None, 3), (4, None))

    def test_of_many_turns_the_nearest_ends(self):
        source = text("a = 5", "if a < !20", "  tell a", "if !2 < a", "  tell a", "if a < !10", "  tell a", "back 0")
        self.stretches(source, 0, (None, 2), (3, 9), (10, 19), (20, None))
        source = text("while x < 3", "  x = x + !2", "back x")
        self.stretches(source, 0, (None, 0), (1, 2), (3, 4), (5, 6))

    def test_others_are_as_written(self):
        source = text("a = 5", "if a < 7 + 8 - a", "  tell a", "back 0")
        self.stretches(source, 0, (None, 7), (8, None))
        self.stretches(source, 1, (None, 2), (3, None))
        self.stretches(source, 2, (None, 3), (4, None))

    def test_sixty_figures(self):
        self.stretches(text("if 5 < !%d" % GREAT, "  tell 0", "back 0"), 0, (None, GREAT - 1), (GREAT, None))
        self.stretches(text("if 5 == %d" % -GREAT, "  tell 0", "back 0"), 0, (None, -GREAT - 1), (-GREAT, -GREAT), (-GREAT + 1, None))
        self.stretches(text("back 5 rest !%d" % GREAT), 0, (-2 * GREAT, -GREAT - 1), (-GREAT, -1), (0, GREAT - 1), (GREAT, 2 * GREAT - 1))
        self.stretches(text("a = 5", "if a * !%d < !7" % GREAT, "  tell 0", "back 0"), 0, (None, 0), (1, None))
        self.stretches(text("a = 5", "if a * !%d < !%d" % (10 ** 59, GREAT), "  tell 0", "back 0"), 0, (None, 9), (10, None))
        self.assertEqual(stretch("back 5 // !8", 0, GREAT), (10 ** 60 - 8, GREAT))
        self.assertEqual(stretch("back 5 // !8", 0, -GREAT), (-10 ** 60, 7 - 10 ** 60))

    def test_faults_end_a_way_too(self):
        # Sixty figures: the quotient of what is greater is great.
        source = text("a = 5", "x = a * !10 // !10", "back x")
        self.assertEqual(stretch(source, 0, GREAT), (GREAT, GREAT))
        self.assertEqual(stretch(source, 0, GREAT + 1), (GREAT + 1, GREAT + 1))
        self.assertEqual(border(source, 0, GREAT), (0, GREAT, GREAT + 1))
        self.stretches(text("l = [ !1 ]", "tell l [ 0 ]", "back 5 // !2"), 0, (None, -1), (0, 0), (1, None))

    def test_steps(self):
        source = text("while x < 3", "  x = x + !1", "back x")
        self.stretches(source, 0, (None, None), steps=0)
        self.stretches(source, 0, (None, 0), (1, None), steps=1)
        self.stretches(source, 0, (None, 0), (1, None), steps=2)
        self.stretches(source, 0, (None, 0), (1, 1), (2, None), steps=3)
        self.assertEqual(stretch(source, 0, GREAT), (150, None))
        self.assertEqual(stretch(source, 0, 149), (149, 149))
        self.assertEqual(stretch(source, 0, GREAT, steps=1000), (500, None))
        # Three hundred if nothing is said: the 150th look is the 299th line begun, or the 300th.
        self.assertEqual(border(source, 0, 149), (149, "no", "yes"))
        self.assertIsNone(border(source, 0, 150))
        later = text("y = !0", *source.split("\n"))
        self.assertEqual(border(later, 0, 149), (149, "no", "yes"))
        self.assertIsNone(border(later, 0, 150))
        self.assertEqual(stretch(later, 0, GREAT), (150, None))

    def test_kinds_of_what_is_told(self):
        found = stretch(text("if 5 == !7", "  tell 0", "back 0"), 0, 7)
        self.assertIs(type(found), tuple)
        self.assertEqual([type(end) for end in found], [int, int])
        self.assertIsNone(stretch("back 1", 0, 7)[0])
        self.assertEqual(stretch(text="back 1", knob=0, number=7, steps=3), (None, None))


class Border(unittest.TestCase):
    def test_no_border(self):
        self.assertIsNone(border("back 1", 0, 1))
        source = text("if 5 < !7", "  tell 0", "back 0")
        self.assertIsNone(border(source, 0, 5))
        self.assertIsNone(border(source, 0, 7))
        self.assertIsNone(border(source, 0, -GREAT))

    def test_what_comes_out(self):
        for test, number, due in (
            ("5 < !7", 6, ("yes", "no")),
            ("!7 < 5", 7, ("no", "yes")),
            ("5 <= !7", 7, ("yes", "no")),
            ("!7 <= 5", 6, ("no", "yes")),
            ("5 == !7", 6, ("less", "same")),
            ("5 == !7", 7, ("same", "more")),
            ("!7 == 5", 6, ("more", "same")),
            ("!7 == 5", 7, ("same", "less")),
        ):
            self.assertEqual(border(text("if " + test, "  tell 0", "back 0"), 0, number), (0, *due), test)
        cell = text("l = [ !5 , !6 ]", "tell l [ 0 ]", "back 0")
        self.assertEqual([border(cell, 0, number) for number in (-2, -1, 0, 1, 2)],
                         [None, (0, "below", 0), (0, 0, 1), (0, 1, "beyond"), None])
        self.assertEqual([border("back 5 // !2", 0, number) for number in range(-3, 3)],
                         [(0, -2, -1), None, (0, -1, 0), None, (0, 0, 1), None])
        self.assertEqual(border("back 5 rest !2", 0, GREAT), (0, GREAT // 2, GREAT // 2 + 1))
        self.assertIsNone(border("back 5 rest !2", 0, -GREAT - 1))
        self.assertEqual(border("back 5 rest !2", 0, -GREAT), (0, -5 * 10 ** 59, 1 - 5 * 10 ** 59))

    def test_the_first_turn_at_which_they_part(self):
        source = text("a = 5", "x = !7 // !2", "if a < !100", "  tell a", "x = a // !10", "x = a // !5", "x = a // !2", "back 0")
        self.assertEqual(border(source, 0, 4), (2, 0, 1))
        self.assertEqual(border(source, 0, 9), (1, 0, 1))
        self.assertEqual(border(source, 0, 1), (3, 0, 1))
        self.assertEqual(border(source, 0, 99), (0, "yes", "no"))
        self.assertIsNone(border(source, 0, 2))
        # The ways behind are of unlike lengths, too.
        loop = text("while x < 3", "  x = x + !1", "back x")
        self.assertEqual(border(loop, 0, 3), (3, "no", "yes"))
        self.assertEqual(border(loop, 0, 0), (0, "no", "yes"))
        self.assertIsNone(border(loop, 0, -1))

    def test_of_a_knob_in_no_lesser_turn(self):
        source = text("if 5 < 7", "  tell 0", "back 0")
        self.assertEqual(border(source, 1, 5), (0, "no", "yes"))
        self.assertIsNone(border(source, 1, 6))
        self.assertIsNone(border(source, 1, 4))

    def test_steps_and_names(self):
        source = text("while x < 3", "  x = x + !1", "back x")
        self.assertEqual(border(source, 0, 1, steps=3), (1, "no", "yes"))
        self.assertIsNone(border(source, 0, 1, steps=2))
        self.assertIsNone(border(source, 0, 0, steps=0))
        self.assertEqual(border(text=source, knob=0, number=1, steps=3), (1, "no", "yes"))
        self.assertIs(type(border(source, 0, 1)), tuple)


class Refused(unittest.TestCase):
    def test_no_text_goes_first(self):
        for call in (stretch, border):
            for thing, line in NO_TEXTS:
                for knob in (0, *NO_KNOBS):
                    with self.assertRaises(NoText) as caught:
                        call(thing, knob, 1)
                    self.assertEqual(caught.exception.line, line)

    def test_no_knob(self):
        for call in (stretch, border):
            for thing in NO_KNOBS:
                with self.assertRaises(NoKnob) as caught:
                    call("back 1 + 2", thing, 1)
                self.assertIs(caught.exception.number, thing)
            with self.assertRaises(NoKnob) as caught:
                call("back !1", 0, 1)
            self.assertEqual(caught.exception.number, 0)

    def test_steps_by_name_alone(self):
        for call in (stretch, border):
            with self.assertRaises(TypeError):
                call("back 1", 0, 1, 300)


if __name__ == "__main__":
    unittest.main()
