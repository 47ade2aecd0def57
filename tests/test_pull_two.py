"""pull_two, against all pairs of a square, and afar."""

import time
import unittest

from tests.byhand import does, pairs_that_do, set_at
from tugline.errors import NoKnob, NoText
from tugline.moves import shared_divisor
from tugline.plain import run
from tugline.pulls import pull_two
from tugline.sources import knobs
from tugline.traced import first_broken, traced

GREAT = 10 ** 60 - 1
NO_TEXTS = ((None, 0), (True, 0), (7, 0), (["back 1"], 0), ("", 0), ("tell 1", 1), ("x = 1\nback", 1))
NO_KNOBS = (-1, 2, 99, GREAT, True, False, None, "0", "", (0,), [0], [[], ()])


def text(*rows):
    return "\n".join(rows)


def two(told, *rows):
    """A text whose knobs 0 and 1 are 5 and 7, and that tells so."""
    return text("x = 5", "y = 7", *rows, "tell " + told, "back !0")


class TwoCase(unittest.TestCase):
    def pulled(self, source, due, *, place=0, knobs_by=(0, 1), pinned=(), far=12, **more):
        """What pull_two tells, looked at in a square, either way about."""
        for knob, other in (knobs_by[::-1], knobs_by):
            found = pull_two(source, place, due, knob, other, pinned=pinned, **more)
            pairs = pairs_that_do(source, [(place, due), *pinned], knob, other, far, **more)
            near = [pair for pair in pairs if pair[0] <= far]
            if near:
                self.assertEqual(found, near[0][2:], (source, due, knob, other))
            elif found is not None:
                here, there = knobs(source)[knob], knobs(source)[other]
                self.assertGreater(abs(found[0] - here) + abs(found[1] - there), far)
                self.holds(source, [(place, due), *pinned], knob, other, found)
        if found is not None:
            self.assertEqual((type(found), [type(part) for part in found]), (tuple, [int, int]))
        return found

    def holds(self, source, asked, knob, other, found):
        """That the pair goes the written way and does it."""
        setting = set_at(source, (knob, found[0]), (other, found[1]))
        self.assertIsNone(first_broken(traced(source)[4], setting))
        self.assertTrue(does(run(source, setting=setting)[0], asked), (source, asked, found))
        self.assertLessEqual(max(abs(found[0]), abs(found[1])), GREAT)


class Nearest(TwoCase):
    def test_the_written_ones_themselves(self):
        self.assertEqual(self.pulled(two("x + y"), 12), (5, 7))
        self.assertEqual(self.pulled(two("!4"), 4), (5, 7))
        self.assertEqual(self.pulled(two("x", "tell y"), 7), (5, 7))

    def test_the_least_sum_of_moves(self):
        self.assertEqual(self.pulled(two("x * !3 + y * !2"), 41), (9, 7))
        self.assertEqual(self.pulled(two("x * !3 + y * !2"), 30), (6, 6))
        self.assertEqual(self.pulled(two("x * !3 + y * !2"), 31), (5, 8))
        self.assertEqual(self.pulled(two("x * !2 + y * !3"), 41), (7, 9))
        self.assertEqual(self.pulled(two("x * !5 + y * !7"), 75), (8, 5))

    def test_of_as_great_a_sum_the_first_one_moved_least(self):
        self.assertEqual(self.pulled(two("x + y"), 15), (5, 10))
        self.assertEqual(self.pulled(two("x + y"), 15, knobs_by=(1, 0)), (7, 8))
        self.assertEqual(self.pulled(two("x + y"), 3), (5, -2))
        self.assertEqual(self.pulled(two("x - y"), 3), (5, 2))
        self.assertEqual(self.pulled(two("y - x"), 3), (5, 8))
        self.assertEqual(self.pulled(two("y * !-4 - x * !4"), -40), (5, 5))
        # The second one can't go all the way.
        self.assertEqual(self.pulled(two("x + y", "if y <= !9", "  z = !1"), 15), (6, 9))
        self.assertEqual(self.pulled(two("x + y", "if !6 <= y", "  z = !1"), 3), (-3, 6))
        # Nor may the first one stay.
        self.assertEqual(self.pulled(two("x + y", "if y <= x + !3", "  z = !1"), 18), (8, 10))

    def test_no_sign_of_a_move_is_liked_better(self):
        for due in range(-30, 60):
            for told in ("x * !2 + y * !3", "x * !-2 + y * !3", "x * !4 - y * !6", "x * !5 + y * !3", "x - y * !7"):
                self.pulled(two(told), due, far=8)

    def test_a_common_part(self):
        self.assertIsNone(self.pulled(two("x * !6 + y * !4"), 59))
        self.assertEqual(self.pulled(two("x * !6 + y * !4"), 60), (6, 6))
        self.assertIsNone(self.pulled(two("x * !6 + y * !4 + !1"), 60))
        self.assertEqual(self.pulled(two("x * !6 + y * !4 + !1"), 59), (5, 7))
        self.assertIsNone(self.pulled(two("x * !10 - y * !15"), 3))
        self.assertEqual(self.pulled(two("x * !10 - y * !15"), 0), (6, 4))

    def test_a_knob_that_is_not_in_the_form(self):
        self.assertEqual(self.pulled(two("x * !3"), 21), (7, 7))
        self.assertIsNone(self.pulled(two("x * !3"), 20))
        self.assertEqual(self.pulled(two("y * !-2"), 6), (5, -3))
        self.assertIsNone(self.pulled(two("y * !-2"), 7))
        # The other one has to be moved for the way's sake alone.
        self.assertEqual(self.pulled(two("y", "if y <= x + !2", "  z = !1"), 11), (9, 11))
        self.assertEqual(self.pulled(two("y", "if y + y <= x + !9", "  z = !1"), 9), (9, 9))
        # Neither of the two.
        other = text("x = 5", "y = 7", "z = 3", "tell z + !1", "back !0")
        self.assertIsNone(self.pulled(other, 5))
        self.assertEqual(self.pulled(other, 4), (5, 7))
        self.assertEqual(self.pulled(other, 5, knobs_by=(1, 2)), (7, 4))
        self.assertEqual(self.pulled(other, 5, knobs_by=(2, 0)), (4, 5))

    def test_a_knob_that_goes_in_and_out_again(self):
        self.assertEqual(self.pulled(two("x - x + y"), 9), (5, 9))
        self.assertIsNone(self.pulled(two("x - x + y - y"), 9))
        self.assertEqual(self.pulled(two("x - x + y - y"), 0), (5, 7))

    def test_others_are_as_written(self):
        source = text("x = 5", "y = 7", "z = 100", "tell x + y + z", "back !0")
        self.assertEqual(self.pulled(source, 114), (5, 9))
        self.assertEqual(self.pulled(source, 114, knobs_by=(2, 1)), (100, 9))
        self.assertEqual(self.pulled(source, 114, knobs_by=(0, 2)), (5, 102))

    def test_rests(self):
        source = two("x rest !10 + y")
        self.assertEqual(self.pulled(source, 15), (5, 10))
        self.assertEqual(self.pulled(two("x rest !10 + y", "if y <= !7", "  z = !1"), 15), (8, 7))
        # Beyond nine the quotient is another one.
        self.assertIsNone(self.pulled(two("x rest !10 + y", "if y <= !7", "  z = !1", "if !7 <= y", "  z = !1"), 17))


class OfTheWay(TwoCase):
    def test_few_pairs_one_or_none(self):
        walls = ("if x <= !6", "  z = !1", "if y <= !8", "  z = !1")
        self.assertEqual(self.pulled(two("x + y", *walls), 13), (5, 8))
        self.assertEqual(self.pulled(two("x + y", *walls), 14), (6, 8))
        self.assertIsNone(self.pulled(two("x + y", *walls), 15))
        self.assertEqual(self.pulled(two("x * !2 + y", *walls), 19), (6, 7))
        self.assertEqual(self.pulled(two("x * !2 + y", *walls), 20), (6, 8))
        self.assertIsNone(self.pulled(two("x * !2 + y", *walls), 21))

    def test_walls_aslant(self):
        slant = ("if x * !3 <= y * !2 + !1", "  z = !1")
        self.assertEqual(self.pulled(two("x", *slant), 7), (7, 10))
        self.assertEqual(self.pulled(two("x + y", *slant), 20), (5, 15))
        self.assertEqual(self.pulled(two("x - y", *slant), 0), (1, 1))
        narrow = slant + ("if y * !2 <= x * !3 + !1", "  z = !1")
        for due in range(-20, 50):
            self.pulled(two("x + y", *narrow), due)
            self.pulled(two("x * !2 + y * !3", *narrow), due, far=7)

    def test_no_whole_number_between_two_walls(self):
        walls = ("if x * !2 + y <= !18", "  z = !1", "if !16 <= x * !2 + y", "  z = !1")
        self.assertIsNone(self.pulled(two("y", *walls, "if x == !5", "  z = !1"), 5))
        self.assertEqual(self.pulled(two("y", *walls), 5), (6, 5))
        self.assertEqual(self.pulled(two("y", "if x * !2 + y == !17", "  z = !1"), 5), (6, 5))
        self.assertIsNone(self.pulled(two("y", "if x * !2 + y == !17", "  z = !1"), 6))

    def test_the_way_of_a_cell_and_of_a_quotient(self):
        source = text("l = [ 1 , 2 , 3 ]", "tell l [ 1 ] + 3", "back !0")
        self.assertEqual(self.pulled(source, 7, knobs_by=(1, 4)), (2, 5))
        self.assertEqual(self.pulled(source, 7, knobs_by=(0, 1)), (1, 4))
        self.assertIsNone(self.pulled(source, 7, knobs_by=(0, 2)))
        self.assertEqual(self.pulled(source, 5, knobs_by=(3, 1)), (1, 2))
        self.assertIsNone(self.pulled(source, 6, knobs_by=(3, 2)))
        quotient = two("x // !4 + y")
        self.assertEqual(self.pulled(quotient, 12), (5, 11))
        self.assertIsNone(self.pulled(two("x // !4"), 2))
        self.assertEqual(self.pulled(two("x // !4"), 1), (5, 7))

    def test_other_ways_are_not_looked_at(self):
        source = two("y", "if x < !6", "  tell !1", "else", "  tell !9")
        self.assertIsNone(self.pulled(source, 9))
        self.assertEqual(self.pulled(source, 1), (5, 7))

    def test_a_fault_behind_and_ahead(self):
        self.assertEqual(self.pulled(text("tell 5 + 7", "back 1 * 2"), 15), (5, 10))
        self.assertIsNone(self.pulled(text("x = 5 * 7", "tell 5", "back !0"), 5))
        source = text("tell 5 + 7", "l = [ !1 ]", "tell l [ 5 ]", "back !0")
        self.assertEqual(self.pulled(source, 15, knobs_by=(0, 2)), (8, 5))
        # Farther down the second one would be a cell of the list.
        same = text("x = 5", "tell x + 7", "l = [ !1 ]", "tell l [ x ]", "back !0")
        self.assertEqual(self.pulled(same, 4, far=14), (5, -1))
        forced = text("x = 5", "tell x - 7", "l = [ !1 ]", "tell l [ x ]", "back !0")
        self.assertEqual(self.pulled(forced, -9), (5, 14))

    def test_steps(self):
        source = text("x = 5", "y = 7", "tell x + y", "back !0")
        self.assertEqual(self.pulled(source, 13, steps=3), (5, 8))
        self.assertIsNone(self.pulled(source, 13, steps=2))
        loop = text("while x < 150", "  x = x + !1", "  y = y + 2", "tell y", "back !0")
        self.assertIsNone(pull_two(loop, 0, 300, 0, 1))
        self.assertEqual(pull_two(loop, 0, 300, 0, 1, steps=1000), (150, 2))
        self.assertEqual(pull_two(loop, 0, 450, 0, 1, steps=1000), (150, 3))
        self.assertIsNone(pull_two(loop, 0, 451, 0, 1, steps=1000))


class Places(TwoCase):
    SOURCE = text("x = 5", "y = 7", "tell x + y", "tell x - y", "tell x * !2", "tell !4", "back !0")

    def test_places_told_and_not(self):
        self.assertEqual(self.pulled(self.SOURCE, 0, place=1), (5, 5))
        self.assertEqual(self.pulled(self.SOURCE, 12, place=2), (6, 7))
        self.assertEqual(self.pulled(self.SOURCE, 4, place=3), (5, 7))
        self.assertIsNone(self.pulled(self.SOURCE, 5, place=3))
        for place in (-1, -4, -5, 4, 5, GREAT, -GREAT):
            self.assertIsNone(self.pulled(self.SOURCE, 12, place=place, far=1))
            self.assertIsNone(self.pulled(self.SOURCE, 12, pinned=[(place, 12)], far=1))
            # Nor where a list would have it, counted from its end.
            for due in (12, -2, 10, 4):
                self.assertIsNone(self.pulled(self.SOURCE, due, place=place, far=1))
                self.assertIsNone(self.pulled(self.SOURCE, 12, pinned=[(place, due)], far=1))

    def test_pinned(self):
        self.assertEqual(self.pulled(self.SOURCE, 14, pinned=[(1, 0)]), (7, 7))
        self.assertEqual(self.pulled(self.SOURCE, 14, pinned=((1, 2),)), (8, 6))
        self.assertIsNone(self.pulled(self.SOURCE, 14, pinned=[(1, 1)]))
        self.assertEqual(self.pulled(self.SOURCE, 14, pinned=[(2, 6), (3, 4)]), (3, 11))
        self.assertIsNone(self.pulled(self.SOURCE, 14, pinned=[(2, 6), (1, 0)]))
        self.assertIsNone(self.pulled(self.SOURCE, 14, pinned=[(3, 5)]))
        self.assertEqual(self.pulled(self.SOURCE, 14, pinned=[(0, 14), (0, 14)]), (5, 9))
        self.assertIsNone(self.pulled(self.SOURCE, 14, pinned=[(0, 13)]))

    def test_pinned_alone_asks_for_a_move(self):
        self.assertEqual(self.pulled(self.SOURCE, 4, place=3, pinned=[(0, 15)]), (5, 10))
        self.assertEqual(self.pulled(self.SOURCE, 12, pinned=[(1, 0)]), (6, 6))
        self.assertEqual(self.pulled(self.SOURCE, 12, pinned=[(1, -4), (2, 8)]), (4, 8))
        self.assertIsNone(self.pulled(self.SOURCE, 12, pinned=[(1, -4), (2, 10)]))

    def test_what_is_handed_in_stays(self):
        pinned = [(1, 0)]
        self.assertEqual(pull_two(self.SOURCE, 0, 14, 0, 1, pinned=pinned), (7, 7))
        self.assertEqual(pinned, [(1, 0)])


class Afar(TwoCase):
    def found(self, source, due, knob=0, other=1, pinned=()):
        """What is told, within the time of a usual call."""
        start = time.perf_counter()
        found = pull_two(source, 0, due, knob, other, pinned=pinned)
        self.assertLess(time.perf_counter() - start, 2)
        if found is not None:
            self.holds(source, [(0, due), *pinned], knob, other, found)
        return found

    def test_worths_of_sixty_figures(self):
        self.assertEqual(self.found(two("x + y"), GREAT), (5, GREAT - 5))
        self.assertEqual(self.found(two("x - y"), GREAT), (5, 5 - GREAT))
        self.assertEqual(self.found(two("x * !3 + y"), GREAT), (GREAT // 3 - 3, 9))

    def test_at_most_sixty_figures(self):
        # The second one alone would have to go beyond.
        self.assertEqual(self.found(two("x + y"), -GREAT), (0, -GREAT))
        self.assertEqual(self.found(two("x - y"), GREAT, 1, 0), (0, GREAT))
        at_most = text("tell 5", "x = 7", "back !0")
        self.assertEqual(self.found(at_most, GREAT), (GREAT, 7))
        self.assertEqual(self.found(at_most, -GREAT), (-GREAT, 7))
        self.assertIsNone(self.found(at_most, GREAT + 1))
        self.assertIsNone(self.found(at_most, -GREAT - 1))
        self.assertEqual(self.found(two("x + y"), 2 * GREAT), (GREAT, GREAT))
        self.assertIsNone(self.found(two("x + y"), 2 * GREAT + 1))
        self.assertEqual(self.found(two("x + y"), -2 * GREAT), (-GREAT, -GREAT))
        self.assertIsNone(self.found(two("x + y"), -2 * GREAT - 1))

    def test_written_afar(self):
        source = text("x = %d" % GREAT, "y = %d" % -GREAT, "tell x + y", "back !0")
        self.assertEqual(self.found(source, 0), (GREAT, -GREAT))
        self.assertEqual(self.found(source, 1), (GREAT, 1 - GREAT))
        self.assertEqual(self.found(source, -1), (GREAT - 1, -GREAT))
        self.assertEqual(self.found(source, -1, 1, 0), (-GREAT, GREAT - 1))
        self.assertEqual(self.found(source, 1, 1, 0), (1 - GREAT, GREAT))

    def test_times_of_sixty_figures(self):
        many = 10 ** 59 + 9
        source = text("x = 5", "y = 7", "tell x * !%d + y * !%d" % (many, many - 1), "back !0")
        now = 5 * many + 7 * (many - 1)
        # One more of the told: the first one up, the second one down.
        self.assertEqual(self.found(source, now + 1), (6, 6))
        self.assertEqual(self.found(source, now - 3), (2, 10))
        self.assertEqual(self.found(source, now + 10 ** 30), (5 + 10 ** 30, 7 - 10 ** 30))
        even = text("x = 5", "tell x * !%d + 7 * !%d" % (2 * 10 ** 58, 4 * 10 ** 58 + 2), "back !0")
        self.assertIsNone(self.found(even, 1))

    def test_conditions_afar(self):
        wall = ("if x + y <= !%d" % 10 ** 50, "  z = !1")
        self.assertIsNone(self.found(two("x + y", *wall), 10 ** 50 + 1))
        self.assertEqual(self.found(two("x + y", *wall), 10 ** 50), (5, 10 ** 50 - 5))
        self.assertEqual(self.found(two("x - y", *wall), 10 ** 55), (5, 5 - 10 ** 55))
        self.assertEqual(self.found(two("x + y * !2", "if y <= x + !2", "  z = !1"), 3 * 10 ** 50 + 1),
                         (10 ** 50 - 1, 10 ** 50 + 1))


class Divisors(unittest.TestCase):
    def test_shared_divisor(self):
        for one in range(-12, 13):
            for other in range(-12, 13):
                if one or other:
                    shared, first, second = shared_divisor(one, other)
                    self.assertEqual(first * one + second * other, shared)
                    self.assertEqual((one % shared, other % shared), (0, 0))


class Calls(unittest.TestCase):
    def test_by_the_names_shown(self):
        found = pull_two(other=1, knob=0, due=15, place=0, text=two("x + y"), steps=9, pinned=[(0, 15)])
        self.assertEqual(found, (5, 10))
        with self.assertRaises(TypeError):
            pull_two(two("x + y"), 0, 15, 0, 1, ())

    def test_no_text_goes_first(self):
        for thing, line in NO_TEXTS:
            for knob in (0, *NO_KNOBS):
                with self.assertRaises(NoText) as caught:
                    pull_two(thing, 0, 1, knob, 1)
                self.assertEqual(caught.exception.line, line)

    def test_no_knob(self):
        for thing in NO_KNOBS:
            for knob, other in ((thing, 1), (0, thing), (thing, -5)):
                with self.assertRaises(NoKnob) as caught:
                    pull_two(two("x + y"), 0, 12, knob, other)
                self.assertIs(caught.exception.number, thing)
            # Nor where nothing is told there.
            with self.assertRaises(NoKnob):
                pull_two(two("x + y"), 9, 12, 0, thing)


if __name__ == "__main__":
    unittest.main()
