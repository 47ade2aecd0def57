"""pull and pull_any, against runs with each number of a range and afar."""

import unittest

from tests.byhand import numbers_that_do, pull_any_by_runs, pull_by_runs, set_at
from tugline.errors import NoKnob, NoText, TooMany, TugError
from tugline.plain import run
from tugline.pulls import pull, pull_any
from tugline.sources import knobs

GREAT = 10 ** 60 - 1
NO_TEXTS = ((None, 0), (True, 0), (7, 0), (["back 1"], 0), ("", 0), ("tell 1", 1), ("x = 1\nback", 1))
NO_KNOBS = (-1, 2, 99, GREAT, True, False, None, "0", "", (0,), [0], [[], ()])


def text(*rows):
    return "\n".join(rows)


# What is told goes up and down again: seven times, at most.
WAVE = text("x = 5", "tell x rest !7", "tell x // !7", "tell x", "back 0")
TENT = text("x = 0", "if x < !0", "  tell !0 - x", "else", "  tell x", "back 0")
FALLS = text("x = 4", "tell x + !1", "y = [ !1 , !2 ]", "tell y [ x ]", "tell !9", "back 0")


class PullCase(unittest.TestCase):
    def pulled(self, source, place, due, knob, low, high, *, pinned=(), **more):
        """What a pull tells, looked at by runs."""
        found = pull(source, place, due, knob, low, high, pinned=pinned, most=1000, **more)
        asked = [(place, due), *pinned]
        self.assertEqual(found, pull_by_runs(source, asked, knob, low, high, **more), (source, asked, knob, low, high))
        self.assertIn(type(found), (int, type(None)))
        return found


class Pull(PullCase):
    def test_the_nearest(self):
        self.assertEqual(self.pulled(WAVE, 0, 3, 0, -40, 40), 3)
        self.assertEqual(self.pulled(WAVE, 0, 0, 0, -40, 40), 7)
        self.assertEqual(self.pulled(WAVE, 0, 1, 0, -40, 40), 8)
        self.assertEqual(self.pulled(WAVE, 0, 6, 0, -40, 40), 6)
        self.assertEqual(self.pulled(WAVE, 2, -13, 0, -40, 40), -13)
        self.assertIsNone(self.pulled(WAVE, 0, 7, 0, -40, 40))
        self.assertIsNone(self.pulled(WAVE, 0, -1, 0, -40, 40))

    def test_the_written_one_itself(self):
        self.assertEqual(self.pulled(WAVE, 0, 5, 0, -40, 40), 5)
        self.assertEqual(self.pulled(WAVE, 0, 5, 0, 5, 5), 5)
        self.assertEqual(self.pulled(WAVE, 1, 0, 0, -40, 40), 5)

    def test_of_two_as_near_the_lesser(self):
        for due in (1, 2, 9):
            self.assertEqual(self.pulled(TENT, 0, due, 0, -20, 20), -due)
            self.assertEqual(self.pulled(TENT, 0, due, 0, 1 - due, 20), due)
        self.assertEqual(self.pulled(TENT, 0, 0, 0, -20, 20), 0)
        source = text("x = 10", "tell x rest !4", "back 0")
        self.assertEqual(self.pulled(source, 0, 0, 0, -20, 20), 8)
        self.assertEqual(self.pulled(source, 0, 0, 0, 9, 20), 12)

    def test_within_a_row_of_one_worth(self):
        # The told number is the same all over a row: the nearest lies inside or at either end.
        self.assertEqual(self.pulled(WAVE, 1, 2, 0, -40, 40), 14)
        self.assertEqual(self.pulled(WAVE, 1, -1, 0, -40, 40), -1)
        self.assertEqual(self.pulled(WAVE, 1, -1, 0, -40, -3), -3)
        self.assertEqual(self.pulled(text("x = 5", "tell !4", "back 0"), 0, 4, 0, -9, 9), 5)
        self.assertIsNone(self.pulled(text("x = 5", "tell !4", "back 0"), 0, 5, 0, -9, 9))

    def test_a_range_beside_the_written_one(self):
        self.assertEqual(self.pulled(WAVE, 0, 5, 0, 6, 40), 12)
        self.assertEqual(self.pulled(WAVE, 0, 5, 0, -40, 4), -2)
        self.assertEqual(self.pulled(WAVE, 0, 5, 0, 20, 40), 26)
        self.assertEqual(self.pulled(WAVE, 0, 5, 0, 26, 26), 26)
        self.assertIsNone(self.pulled(WAVE, 0, 5, 0, 27, 32))
        self.assertEqual(self.pulled(text("x = 5", "tell !4", "back 0"), 0, 4, 0, 7, 9), 7)
        self.assertEqual(self.pulled(text("x = 5", "tell !4", "back 0"), 0, 4, 0, -7, -2), -2)

    def test_all_worths_of_small_ranges(self):
        for source in (WAVE, TENT, FALLS):
            for due in range(-8, 9):
                for place in range(-2, 4):
                    for low, high in ((-9, 9), (0, 3), (-5, -1), (6, 12)):
                        self.pulled(source, place, due, 0, low, high)

    def test_times_that_do_not_go_evenly(self):
        source = text("x = 1", "tell x * !3 + !1", "tell !0 - x * !4", "back 0")
        self.assertEqual([self.pulled(source, 0, due, 0, -9, 9) for due in (4, 5, 6, 7, -2, -3)], [1, None, None, 2, -1, None])
        self.assertEqual([self.pulled(source, 1, due, 0, -9, 9) for due in (4, 5, 6, 7, 8, -4)], [-1, None, None, None, -2, 1])

    def test_a_fault_behind_the_told_place(self):
        self.assertEqual(self.pulled(FALLS, 0, 8, 0, -20, 20), 7)
        self.assertEqual(run(FALLS, setting=[7, 0])[1][0], "fault")
        self.assertEqual(self.pulled(FALLS, 2, 9, 0, -20, 20), 1)
        self.assertEqual(self.pulled(FALLS, 1, 2, 0, -20, 20), 1)
        self.assertEqual(self.pulled(FALLS, 1, 1, 0, -20, 20), 0)
        self.assertIsNone(self.pulled(FALLS, 1, 1, 0, 1, 20))
        source = text("tell 3", "back 1 * 2")
        self.assertEqual(self.pulled(source, 0, 9, 0, -20, 20), 9)

    def test_a_fault_ahead_of_it(self):
        source = text("x = 9 // !0", "tell 3", "back 0")
        self.assertIsNone(self.pulled(source, 0, 3, 1, -20, 20))

    def test_places_below_nought_and_beyond(self):
        for place in (-1, -2, -3, -4, -GREAT, 3, 4, GREAT):
            self.assertIsNone(self.pulled(WAVE, place, 5, 0, -9, 9))
            self.assertIsNone(self.pulled(WAVE, 0, 5, 0, -9, 9, pinned=[(place, 5)]))
        self.assertIsNone(self.pulled("back 5", 0, 5, 0, -9, 9))

    def test_what_goes_back_is_not_told(self):
        self.assertIsNone(self.pulled(text("tell !3", "back 5"), 1, 5, 0, -9, 9))

    def test_loops(self):
        source = text("while x < 3", "  x = x + !1", "  tell x", "back x")
        self.assertEqual(self.pulled(source, 4, 5, 0, -20, 20), 5)
        self.assertEqual(self.pulled(source, 0, 1, 0, -20, 20), 3)
        self.assertEqual(self.pulled(source, 0, 1, 0, -20, 1), 1)
        self.assertIsNone(self.pulled(source, 4, 6, 0, -20, 20))

    def test_others_are_as_written(self):
        source = text("x = 5", "y = 7", "tell x + y * !2", "back 0")
        self.assertEqual(self.pulled(source, 0, 25, 0, -20, 20), 11)
        self.assertEqual(self.pulled(source, 0, 25, 1, -20, 20), 10)
        self.assertIsNone(self.pulled(source, 0, 25, 2, -20, 20))
        self.assertEqual(self.pulled(source, 0, 19, 2, -20, 20), 0)

    def test_afar(self):
        source = text("x = %d" % GREAT, "tell x", "tell x rest !7", "back 0")
        self.assertEqual(pull(text("x = 5", "tell x", "back 0"), 0, GREAT, 0, -GREAT, GREAT), GREAT)
        self.assertEqual(pull(text("x = 5", "tell x", "back 0"), 0, -GREAT, 0, -GREAT, GREAT), -GREAT)
        self.assertEqual(pull(source, 0, GREAT - 3, 0, GREAT - 9, GREAT), GREAT - 3)
        self.assertEqual(pull(source, 1, 0, 0, GREAT - 20, GREAT, most=4), GREAT - GREAT % 7)
        third = text("x = 5", "if x < !0", "  tell !0", "else", "  tell x * !3", "back 0")
        self.assertEqual(pull(third, 0, GREAT, 0, -GREAT, GREAT), GREAT // 3)
        self.assertIsNone(pull(third, 0, GREAT - 1, 0, -GREAT, GREAT))
        self.assertEqual(pull(third, 0, 0, 0, -GREAT, GREAT), 0)
        self.assertEqual(pull(third, 0, 0, 0, -GREAT, -9), -9)
        times = text("x = 5", "tell x * !%d" % 10 ** 59, "back 0")
        self.assertEqual(pull(times, 0, 10 ** 59, 0, -GREAT, GREAT), 1)
        self.assertIsNone(pull(times, 0, 10 ** 59 + 1, 0, -GREAT, GREAT))

    def test_steps(self):
        source = text("while x < 3", "  x = x + !1", "  tell x", "back x")
        self.assertEqual(self.pulled(source, 2, 3, 0, -9, 9, steps=9), 3)
        self.assertEqual(self.pulled(source, 2, 3, 0, -9, 9, steps=20), 3)
        self.assertIsNone(self.pulled(source, 2, 3, 0, -9, 9, steps=8))
        self.assertIsNone(self.pulled(source, 0, 1, 0, -9, 9, steps=0))
        # Three hundred if nothing is said: the hundredth tell is the three hundredth line.
        self.assertEqual(pull(source, 99, 100, 0, 0, 200, most=1000), 100)
        self.assertIsNone(pull(source, 100, 101, 0, 0, 200, most=1000))
        self.assertEqual(pull(source, 100, 101, 0, 0, 200, most=1000, steps=303), 101)


class Pinned(PullCase):
    def test_pinned_places(self):
        source = text("x = 5", "tell x rest !7", "tell x rest !5", "tell x", "back 0")
        self.assertEqual(self.pulled(source, 0, 3, 0, -40, 40), 3)
        self.assertEqual(self.pulled(source, 0, 3, 0, -40, 40, pinned=((1, 0),)), 10)
        self.assertEqual(self.pulled(source, 0, 3, 0, -40, 40, pinned=[(1, 0)]), 10)
        self.assertEqual(self.pulled(source, 0, 3, 0, -40, 40, pinned=[(1, 0), (2, -25)]), -25)
        self.assertIsNone(self.pulled(source, 0, 3, 0, -40, 40, pinned=[(1, 0), (2, -24)]))
        self.assertIsNone(self.pulled(source, 0, 3, 0, -40, 9, pinned=[(1, 0), (2, 10)]))

    def test_pinned_and_told_by_the_knob_alike(self):
        source = text("x = 5", "y = 3", "tell x", "tell x + y", "tell y", "back 0")
        self.assertIsNone(self.pulled(source, 0, 9, 0, -40, 40, pinned=[(1, 8)]))
        self.assertEqual(self.pulled(source, 0, 9, 0, -40, 40, pinned=[(1, 12)]), 9)
        self.assertEqual(self.pulled(source, 0, 9, 0, -40, 40, pinned=[(2, 3)]), 9)
        self.assertIsNone(self.pulled(source, 0, 9, 0, -40, 40, pinned=[(2, 4)]))
        self.assertIsNone(self.pulled(source, 2, 4, 1, -40, 40, pinned=[(2, 3)]))
        self.assertEqual(self.pulled(source, 2, 4, 1, -40, 40, pinned=[(2, 4), (0, 5), (2, 4)]), 4)

    def test_a_place_that_only_some_runs_tell(self):
        self.assertEqual(self.pulled(FALLS, 0, 1, 0, -20, 20), 0)
        self.assertEqual(self.pulled(FALLS, 0, 8, 0, -20, 20), 7)
        self.assertIsNone(self.pulled(FALLS, 0, 8, 0, -20, 20, pinned=[(2, 9)]))
        self.assertEqual(self.pulled(FALLS, 0, 2, 0, -20, 20, pinned=[(2, 9)]), 1)
        self.assertIsNone(self.pulled(FALLS, 0, 2, 0, -20, 20, pinned=[(3, 9)]))
        self.assertIsNone(self.pulled(FALLS, 0, 2, 0, -20, 20, pinned=[(-1, 9)]))

    def test_what_is_handed_in_stays(self):
        pinned = [(1, 0), (2, -25)]
        pull(WAVE, 0, 3, 0, -40, 40, pinned=pinned)
        pull_any(WAVE, 0, 3, -40, 40, pinned=pinned)
        self.assertEqual(pinned, [(1, 0), (2, -25)])


class Many(PullCase):
    def test_as_many_rows_as_may_be_and_one_more(self):
        for many in (1, 2, 5, 100):
            more = {} if many == 100 else {"most": many}
            self.assertEqual(pull(WAVE, 0, 6, 0, 0, 7 * many - 1, **more), 6)
            with self.assertRaises(TooMany) as caught:
                pull(WAVE, 0, 6, 0, 0, 7 * many, **more)
            self.assertEqual(caught.exception.most, many)

    def test_too_many_though_the_nearest_is_found(self):
        for low, high in ((0, 14), (-9, 5), (5, 30), (-GREAT, GREAT)):
            with self.assertRaises(TooMany):
                pull(WAVE, 0, 5, 0, low, high, most=2)
        with self.assertRaises(TooMany):
            pull(WAVE, -1, 5, 0, 0, 20, most=2)

    def test_of_any_knob(self):
        source = text("x = 5", "tell x", "y = 3 // !2", "back 0")
        self.assertEqual(pull_any(source, 0, 9, 0, 9, most=5), (0, 9))
        with self.assertRaises(TooMany) as caught:
            pull_any(source, 0, 9, 0, 10, most=5)
        self.assertEqual(caught.exception.most, 5)
        first = text("y = 3 // !2", "x = 5", "tell x", "back 0")
        self.assertEqual(pull_any(first, 0, 9, 0, 9, most=5), (1, 9))
        with self.assertRaises(TooMany):
            pull_any(first, 0, 9, 0, 10, most=5)
        with self.assertRaises(TooMany):
            pull_any(source, 0, 5, -GREAT, GREAT)
        self.assertEqual(pull_any(source, 0, 9, 0, 199), (0, 9))
        with self.assertRaises(TooMany) as caught:
            pull_any(source, 0, 9, 0, 200)
        self.assertEqual(caught.exception.most, 100)


class Any(unittest.TestCase):
    def pulled(self, source, place, due, low, high, *, pinned=(), **more):
        found = pull_any(source, place, due, low, high, pinned=pinned, most=1000, **more)
        asked = [(place, due), *pinned]
        self.assertEqual(found, pull_any_by_runs(source, asked, low, high, **more), (source, asked, low, high))
        if found is not None:
            self.assertEqual((type(found), [type(part) for part in found]), (tuple, [int, int]))
        return found

    def test_the_nearest(self):
        source = text("x = 5", "y = 7", "tell x + y * !2", "back 0")
        self.assertEqual(self.pulled(source, 0, 20, -30, 30), (0, 6))
        self.assertEqual(self.pulled(source, 0, 21, -30, 30), (1, 8))
        self.assertEqual(self.pulled(source, 0, 25, -30, 30), (1, 10))
        self.assertEqual(self.pulled(source, 0, 24, -30, 30), (0, 10))
        self.assertEqual(self.pulled(source, 0, 25, 11, 30), (0, 11))
        self.assertIsNone(self.pulled(source, 0, 25, 12, 30))

    def test_as_near_the_least_knob(self):
        source = text("x = 5", "y = 7", "tell x + y", "back 0")
        self.assertEqual(self.pulled(source, 0, 15, -30, 30), (0, 8))
        self.assertEqual(self.pulled(source, 0, 9, -30, 30), (0, 2))
        # By knob 1 the lesser number would do it, yet knob 0 is the least one.
        turned = text("x = 5", "y = 7", "tell x - y", "back 0")
        self.assertEqual(self.pulled(turned, 0, 1, -30, 30), (0, 8))
        self.assertEqual(self.pulled(source, 0, 12, -30, 30), (0, 5))
        # The knobs beside those that do it stand idle.
        idle = text("z = 1", "x = 5", "y = 7", "tell x + y", "back 0")
        self.assertEqual(self.pulled(idle, 0, 15, -30, 30), (1, 8))

    def test_as_near_of_its_two_the_lesser(self):
        source = text("z = 3", "x = 0", "if x < !0", "  tell !0 - x", "else", "  tell x", "back 0")
        self.assertEqual(self.pulled(source, 0, 4, -20, 20), (1, -4))
        self.assertEqual(self.pulled(source, 0, 4, 0, 20), (1, 4))

    def test_the_written_one_of_the_least_knob(self):
        source = text("x = 5", "y = 7", "tell y", "back 0")
        self.assertEqual(self.pulled(source, 0, 7, -20, 20), (0, 5))
        self.assertEqual(self.pulled(source, 0, 7, 6, 20), (1, 7))
        self.assertEqual(self.pulled(source, 0, 7, 8, 20), (0, 8))
        self.assertEqual(self.pulled(source, 0, 7, -20, 1), (2, 0))

    def test_none(self):
        source = text("x = 5", "tell x * !2", "back 0")
        self.assertIsNone(self.pulled(source, 0, 9, -20, 20))
        self.assertIsNone(self.pulled(source, 1, 10, -20, 20))
        self.assertIsNone(self.pulled(source, -1, 10, -20, 20))

    def test_a_text_without_knobs(self):
        source = text("tell !4", "back !0")
        self.assertEqual(knobs(source), [])
        self.assertIsNone(self.pulled(source, 0, 4, -20, 20))
        self.assertIsNone(pull_any(source, 0, 4, -GREAT, GREAT, most=1))

    def test_pinned(self):
        source = text("x = 5", "y = 7", "tell x + y", "tell y", "back 0")
        self.assertEqual(self.pulled(source, 0, 13, -20, 20), (0, 6))
        self.assertEqual(self.pulled(source, 0, 13, -20, 20, pinned=[(1, 7)]), (0, 6))
        self.assertEqual(self.pulled(source, 0, 13, -20, 20, pinned=((1, 8),)), (1, 8))
        self.assertIsNone(self.pulled(source, 0, 13, -20, 20, pinned=[(1, 9)]))
        self.assertIsNone(self.pulled(source, 0, 13, -20, 20, pinned=[(2, 0)]))
        self.assertIsNone(self.pulled(source, 0, 13, -20, 20, pinned=[(-1, 7)]))

    def test_afar_and_steps(self):
        source = text("x = 5", "y = 7", "tell x + y * !2", "back 0")
        # Sixty nines are odd, and so is 5: the second knob alone has to go half as far.
        self.assertEqual(pull_any(source, 0, GREAT, -GREAT, GREAT), (1, (GREAT - 5) // 2))
        self.assertEqual(pull_any(source, 0, GREAT - 1, -GREAT, GREAT), (0, GREAT - 15))
        loop = text("while x < 3", "  x = x + !1", "  tell x", "back x")
        self.assertEqual(self.pulled(loop, 3, 4, -9, 9), (0, 4))
        self.assertIsNone(self.pulled(loop, 3, 4, -9, 9, steps=11))
        self.assertEqual(self.pulled(loop, 3, 4, -9, 9, steps=12), (0, 4))


class Calls(unittest.TestCase):
    def test_by_the_names_shown(self):
        found = pull(high=40, low=-40, knob=0, due=3, place=0, text=WAVE, most=20, steps=9, pinned=[(2, 10)])
        self.assertEqual(found, 10)
        found = pull_any(high=40, low=-40, due=3, place=0, text=WAVE, most=20, steps=9, pinned=[(2, 10)])
        self.assertEqual(found, (0, 10))

    def test_those_behind_the_star_by_name_alone(self):
        with self.assertRaises(TypeError):
            pull(WAVE, 0, 3, 0, -40, 40, ())
        with self.assertRaises(TypeError):
            pull_any(WAVE, 0, 3, -40, 40, ())

    def test_no_text_goes_first(self):
        for thing, line in NO_TEXTS:
            for knob in (0, *NO_KNOBS):
                with self.assertRaises(NoText) as caught:
                    pull(thing, 0, 1, knob, 0, 9, most=1)
                self.assertEqual(caught.exception.line, line)
            with self.assertRaises(NoText) as caught:
                pull_any(thing, 0, 1, 0, 9, most=1)
            self.assertEqual(caught.exception.line, line)

    def test_no_knob_goes_ahead_of_too_many(self):
        for thing in NO_KNOBS:
            with self.assertRaises(NoKnob) as caught:
                pull(text("tell 5 // !2", "back 0"), 0, 1, thing, 0, 9, most=1)
            self.assertIs(caught.exception.number, thing)
        with self.assertRaises(NoKnob):
            pull("back !1", 0, 1, 0, 0, 9)

    def test_all_are_refusals(self):
        for call in (lambda: pull("", 0, 1, 0, 0, 9), lambda: pull("back 1", 0, 1, 1, 0, 9),
                     lambda: pull(WAVE, 0, 1, 0, 0, 99, most=1)):
            with self.assertRaises(TugError):
                call()

    def test_set_anew_it_tells_that(self):
        for due in range(7):
            number = pull(WAVE, 0, due, 0, -40, 40)
            self.assertEqual(run(WAVE, setting=set_at(WAVE, (0, number)))[0][0], due)
        self.assertEqual(numbers_that_do(WAVE, [(0, 3)], 0, -5, 10), [-4, 3, 10])


if __name__ == "__main__":
    unittest.main()
