"""parting and wrong_row."""

import copy
import unittest

from tugline.errors import NoKnob, NoText, TooMany
from tugline.sources import knobs
from tugline.stretches import parting, wrong_row

GREAT = 10 ** 60 - 1
NO_TEXTS = ((None, 0), (True, 0), (7, 0), (["back 1"], 0), ("", 0), ("tell 1", 1), ("x = 1\nback", 1))
NO_KNOBS = (-1, 2, 99, GREAT, True, False, None, "0", "", (0,), [0], [[], ()])


def text(*rows):
    return "\n".join(rows)


STAIRS = text("x = 5", "tell x // !10", "tell x rest !10", "back x + 7")


def stair(least, greatest):
    """The row of STAIRS whose quotient is that of the least one."""
    step = least // 10
    return least, greatest, ((step, 0), (-10 * step, 1)), ("back", (7, 1))


class PartingCase(unittest.TestCase):
    def parted(self, due, source, knob, low, high, **more):
        rows = parting(source, knob, low, high, **more)
        self.assertEqual(rows, due)
        self.assertIs(type(rows), list)
        for row in rows:
            self.assertIs(type(row), tuple)
            self.assertEqual([type(part) for part in row], [int, int, tuple, tuple])
            for pair in row[2]:
                self.assertEqual((type(pair), [type(part) for part in pair]), (tuple, [int, int]))
        steps = {"steps": more["steps"]} if "steps" in more else {}
        self.assertIsNone(wrong_row(source, knob, low, high, rows, **steps))


class Rows(PartingCase):
    def test_one_row(self):
        self.parted([(-5, 9, (), ("back", (0, 1)))], "back 1", 0, -5, 9)
        self.parted([stair(1, 8)], STAIRS, 0, 1, 8)
        self.parted([stair(0, 9)], STAIRS, 0, 0, 9)

    def test_several(self):
        self.parted([stair(0, 9), stair(10, 10)], STAIRS, 0, 0, 10)
        self.parted([stair(-1, -1), stair(0, 9)], STAIRS, 0, -1, 9)
        self.parted([stair(-13, -11), stair(-10, -1), stair(0, 9), stair(10, 19), stair(20, 21)], STAIRS, 0, -13, 21)
        self.parted(
            [(-3, 2, ((1, 0),), ("back", (0, 1))), (3, 3, ((2, 0),), ("back", (0, 1))), (4, 6, ((3, 0),), ("back", (0, 1)))],
            text("x = 5", "if x == !3", "  tell !2", "else", "  if x < !3", "    tell !1", "  else", "    tell !3", "back x"),
            0, -3, 6,
        )

    def test_a_range_of_one_number(self):
        for number in (-11, -10, -1, 0, 5, 9, 10, GREAT, -GREAT):
            self.parted([stair(number, number)], STAIRS, 0, number, number)

    def test_ranges_afar(self):
        ten = 10 ** 59
        self.parted([stair(ten - 2, ten - 1), stair(ten, ten + 3)], STAIRS, 0, ten - 2, ten + 3)
        self.parted([stair(-ten - 2, -ten - 1), stair(-ten, 3 - ten)], STAIRS, 0, -ten - 2, 3 - ten)
        source = text("if 5 < 7", "  tell 0", "back 0")
        self.parted([(-GREAT, 6, ((0, 0),), ("back", (0, 0))), (7, GREAT, (), ("back", (0, 0)))], source, 0, -GREAT, GREAT)

    def test_told_and_end_by_the_knob_alone(self):
        source = text("a = 5", "b = 7", "tell a + b + b - !1", "tell b", "tell a", "tell !4", "tell a * !-3", "back b - a")
        told = ((13, 1), (7, 0), (0, 1), (4, 0), (0, -3))
        self.parted([(0, 2, told, ("back", (7, -1)))], source, 0, 0, 2)
        told = ((4, 2), (0, 1), (5, 0), (4, 0), (-15, 0))
        self.parted([(0, 2, told, ("back", (-5, 1)))], source, 1, 0, 2)

    def test_the_knob_as_written_does_not_matter(self):
        self.parted([stair(0, 9), stair(10, 10)], STAIRS.replace("x = 5", "x = -77"), 0, 0, 10)

    def test_faults(self):
        source = text("tell 3", "l = [ 5 , !6 ]", "tell l [ 0 ]", "back 0")
        told, fault = (3, 0), ("fault", "place", 2)
        end = ("back", (0, 0))
        due = [(-2, -1, (told,), fault), (0, 0, (told, (5, 0)), end), (1, 1, (told, (6, 0)), end), (2, 4, (told,), fault)]
        self.parted(due, source, 2, -2, 4)
        self.parted([(8, 9, (), ("fault", "bent", 0))], "back 1 * 2", 0, 8, 9)

    def test_a_great_quotient(self):
        source = text("a = 5", "tell a * !10 // !1", "back 0")
        low = GREAT // 10
        self.parted(
            [(low, low, ((low * 10, 0),), ("back", (0, 0))), (low + 1, low + 1, (), ("fault", "great", 1))],
            source, 0, low, low + 1,
        )

    def test_steps(self):
        source = text("while x < 3", "  x = x + !1", "back x")
        self.parted([(-4, 0, (), ("back", (0, 0))), (1, 9, (), ("fault", "steps", 0))], source, 0, -4, 9, steps=2)
        self.parted([(-4, 9, (), ("fault", "steps", 0))], source, 0, -4, 9, steps=0)
        rows = parting(source, 0, -4, 300, most=1000)
        self.assertEqual(len(rows), 151)
        self.assertEqual(rows[-1], (150, 300, (), ("fault", "steps", 0)))
        self.parted(parting(source, 0, -4, 300, most=1000, steps=1000), source, 0, -4, 300, steps=1000, most=302)

    def test_by_the_names_shown_and_what_is_told_is_new(self):
        first = parting(text=STAIRS, knob=0, low=0, high=10, steps=9, most=2)
        first.clear()
        self.assertEqual(parting(STAIRS, 0, 0, 10), [stair(0, 9), stair(10, 10)])
        for call in (lambda: parting(STAIRS, 0, 0, 10, 9), lambda: parting(STAIRS, 0, 0, 10, 9, 2)):
            with self.assertRaises(TypeError):
                call()


class Many(PartingCase):
    def test_as_many_as_may_be_and_one_more(self):
        for many in (1, 2, 3, 7):
            high = 10 * many - 1
            due = [stair(least, least + 9) for least in range(0, high, 10)]
            self.parted(due, STAIRS, 0, 0, high, most=many)
            self.parted(due, STAIRS, 0, 0, high, most=many + 1)
            for far in (high + 1, GREAT):
                with self.assertRaises(TooMany) as caught:
                    parting(STAIRS, 0, 0, far, most=many)
                self.assertEqual(caught.exception.most, many)

    def test_a_hundred_if_nothing_is_said(self):
        self.assertEqual(len(parting(STAIRS, 0, 0, 999)), 100)
        self.assertEqual(len(parting(STAIRS, 0, 5, 999)), 100)
        with self.assertRaises(TooMany) as caught:
            parting(STAIRS, 0, 0, 1000)
        self.assertEqual(caught.exception.most, 100)
        self.assertEqual(len(parting(STAIRS, 0, 0, 1000, most=101)), 101)


class WrongRow(PartingCase):
    rows = [stair(-3, -1), stair(0, 9), stair(10, 19), stair(20, 21)]

    def wrong(self, due, thing, source=STAIRS, low=-3, high=21):
        kept = copy.deepcopy(thing)
        found = wrong_row(source, 0, low, high, thing)
        self.assertEqual(found, due, thing)
        self.assertIs(type(found), type(due))
        self.assertEqual(repr(thing), repr(kept))

    def test_as_told(self):
        self.wrong(None, parting(STAIRS, 0, -3, 21))
        self.wrong(None, list(self.rows))
        self.wrong(None, [stair(5, 5)], low=5, high=5)

    def test_a_row_out(self):
        for at in range(4):
            self.wrong(at, self.rows[:at] + self.rows[at + 1:])

    def test_more_are_due(self):
        for many in range(4):
            self.wrong(many, self.rows[:many])
        self.wrong(1, [stair(0, 9)], low=0, high=10)

    def test_a_row_twice(self):
        for at in range(4):
            self.wrong(at + 1, self.rows[:at + 1] + self.rows[at:])

    def test_one_too_many(self):
        for more in (stair(22, 29), stair(20, 21), None, (), []):
            self.wrong(4, self.rows + [more])
            self.wrong(4, self.rows + [more, more])
        self.wrong(1, [stair(5, 5), stair(6, 6)], low=5, high=5)
        # A row of no number at all.
        least, greatest, told, end = self.rows[3]
        self.wrong(4, self.rows + [(22, 21, told, end)])

    def test_out_of_order(self):
        self.wrong(0, self.rows[::-1])
        self.wrong(1, [self.rows[0], self.rows[2], self.rows[1], self.rows[3]])

    def test_no_list(self):
        for thing in (None, True, False, 0, 4, GREAT, "", "back 1", (), tuple(self.rows), (self.rows,)):
            self.wrong(0, thing)

    def test_rows_that_are_none(self):
        for row in (None, True, 0, 1, -3, "", "row", (), [], [[]], (((),),), self.rows, list(self.rows[1]), self.rows[1][:3],
                    self.rows[1] + (0,), self.rows[1] + (None,), self.rows[1][:2], (self.rows[1],), [self.rows[1]]):
            for at in range(4):
                self.wrong(at, self.rows[:at] + [row] + self.rows[at + 1:])

    def test_parts_that_are_not_so(self):
        least, greatest, told, end = self.rows[1]
        for row in (
            (least + 1, greatest, told, end),
            (least - 1, greatest, told, end),
            (least, greatest - 1, told, end),
            (least, greatest + 1, told, end),
            (None, greatest, told, end),
            (least, None, told, end),
            (least, greatest, told[:1], end),
            (least, greatest, told + ((0, 0),), end),
            (least, greatest, (), end),
            (least, greatest, told[::-1], end),
            (least, greatest, ((0, 0), (1, 1)), end),
            (least, greatest, ((0, 1), (0, 1)), end),
            (least, greatest, ((0, 0), (0, 2)), end),
            (least, greatest, ((0, 0), (0, -1)), end),
            (least, greatest, told, ("back", (8, 1))),
            (least, greatest, told, ("back", (7, 0))),
            (least, greatest, told, ("back", 7)),
            (least, greatest, told, ("fault", (7, 1))),
            (least, greatest, told, ("fault", "kind", 3)),
            (least, greatest, told, ("back",)),
            (least, greatest, told, ("back", (7, 1), 0)),
            (least, greatest, told, ()),
            (least, greatest, told, None),
            (least, greatest, None, end),
        ):
            self.wrong(1, [self.rows[0], row] + self.rows[2:])

    def test_truths_for_numbers(self):
        least, greatest, told, end = self.rows[1]
        for row in (
            (False, greatest, told, end),
            (least, greatest, ((False, 0), (0, 1)), end),
            (least, greatest, ((0, False), (0, 1)), end),
            (least, greatest, ((0, 0), (0, True)), end),
            (least, greatest, ((0, 0), (False, 1)), end),
            (least, greatest, told, ("back", (7, True))),
        ):
            self.assertEqual(row, self.rows[1])
            self.wrong(1, [self.rows[0], row] + self.rows[2:])
        self.wrong(0, [(0, True, told, end)], low=0, high=1)
        self.wrong(None, [(0, 1, told, end)], low=0, high=1)

    def test_lists_for_tuples(self):
        least, greatest, told, end = self.rows[1]
        for row in (
            [least, greatest, told, end],
            (least, greatest, list(told), end),
            (least, greatest, ([0, 0], (0, 1)), end),
            (least, greatest, ((0, 0), [0, 1]), end),
            (least, greatest, told, list(end)),
            (least, greatest, told, ("back", [7, 1])),
        ):
            self.wrong(1, [self.rows[0], row] + self.rows[2:])

    def test_faults(self):
        source = text("l = [ !5 ]", "tell l [ 0 ]", "back 0")
        fault, told = ("fault", "place", 1), ((5, 0),)
        rows = [(-2, -1, (), fault), (0, 0, told, ("back", (0, 0))), (1, 2, (), fault)]
        self.wrong(None, rows, source, -2, 2)
        for end in (("fault", "place", 0), ("fault", "place", True), ("fault", "kind", 1), ("fault", None, 1), ["fault", "place", 1],
                    ("fault", ["place"], 1), ("back", "place", 1), ("fault", "place"), ("fault", "place", 1, 1), ("back", (0, 0))):
            self.wrong(2, rows[:2] + [(1, 2, (), end)], source, -2, 2)
            self.wrong(0, [(-2, -1, (), end)] + rows[1:], source, -2, 2)

    def test_a_row_of_the_same_way_elsewhere(self):
        # What is told is the same on both sides, but the ways aren't.
        source = text("if 5 < !3", "  x = !1", "back 0")
        end = ("back", (0, 0))
        self.wrong(None, [(0, 2, (), end), (3, 9, (), end)], source, 0, 9)
        self.wrong(0, [(0, 9, (), end)], source, 0, 9)
        self.wrong(1, [(0, 2, (), end), (3, 8, (), end), (9, 9, (), end)], source, 0, 9)

    def test_no_more_rows_are_looked_at_than_there_are(self):
        self.wrong(0, [], low=-GREAT, high=GREAT)
        self.wrong(1, [stair(-GREAT, 9 - 10 ** 60)], low=-GREAT, high=GREAT)
        self.wrong(0, [stair(0, 9)], low=-GREAT, high=GREAT)
        # More of them than a parting may have, if nothing is said.
        rows = parting(STAIRS, 0, 0, 1500, most=200)
        self.wrong(None, rows, low=0, high=1500)
        self.wrong(150, rows[:150] + [stair(1500, 1509)], low=0, high=1500)

    def test_three_hundred_steps_if_nothing_is_said(self):
        source = text("while x < 3", "  x = x + !1", "back x")
        fault = ("fault", "steps", 0)
        # Each round begins two lines: 149 of them, one more look and the back are 300.
        self.wrong(None, [(149, 149, (), ("back", (149, 0))), (150, 151, (), fault)], source, 149, 151)
        source = text("y = !0", *source.split("\n"))
        self.wrong(None, [(148, 148, (), ("back", (148, 0))), (149, 149, (), ("fault", "steps", 3)), (150, 150, (), ("fault", "steps", 2))],
                   source, 148, 150)

    def test_by_the_names_shown(self):
        self.assertIsNone(wrong_row(text=STAIRS, knob=0, low=0, high=1, thing=[stair(0, 1)], steps=4))
        self.assertEqual(wrong_row(STAIRS, 0, 0, 1, [stair(0, 1)], steps=3), 0)
        with self.assertRaises(TypeError):
            wrong_row(STAIRS, 0, 0, 1, [stair(0, 1)], 300)
        with self.assertRaises(TypeError):
            wrong_row(STAIRS, 0, 0, 1, [stair(0, 1)], most=300)


class Refused(unittest.TestCase):
    def calls(self):
        yield lambda source, knob: parting(source, knob, 0, 9, most=1)
        yield lambda source, knob: parting(source, knob, 0, 9)
        yield lambda source, knob: wrong_row(source, knob, 0, 9, [])
        yield lambda source, knob: wrong_row(source, knob, 0, 9, None)

    def test_no_text_goes_first(self):
        for call in self.calls():
            for thing, line in NO_TEXTS:
                for knob in (0, *NO_KNOBS):
                    with self.assertRaises(NoText) as caught:
                        call(thing, knob)
                    self.assertEqual(caught.exception.line, line)

    def test_no_knob_goes_ahead_of_too_many(self):
        source = "back 1 // !2 + 7 // !3"
        self.assertEqual(knobs(source), [1, 7])
        for call in self.calls():
            for thing in NO_KNOBS:
                with self.assertRaises(NoKnob) as caught:
                    call(source, thing)
                self.assertIs(caught.exception.number, thing)
        with self.assertRaises(TooMany):
            parting(source, 0, 0, 9, most=1)


if __name__ == "__main__":
    unittest.main()
