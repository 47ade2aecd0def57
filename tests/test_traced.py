"""traced: forms of what is told, conditions of each kind of turn; first_broken."""

import unittest

from tugline.errors import NoKnob, NoText
from tugline.forms import worth
from tugline.plain import run
from tugline.sources import knobs
from tugline.traced import first_broken, traced

GREAT = 10 ** 60 - 1
NEAR = (-7, -3, -2, -1, 0, 1, 2, 3, 4, 5, 8, GREAT, -GREAT)


def text(*rows):
    return "\n".join(rows)


class TracedCase(unittest.TestCase):
    def agrees(self, source, **more):
        """traced tells what run tells, by forms; told is what traced told."""
        told, end, way, many, conditions = result = traced(source, **more)
        plain = run(source, **more)
        setting = more["setting"] if "setting" in more else knobs(source)
        self.assertEqual(tuple(worth(form, setting) for form in told), plain[0])
        if end[0] == "back":
            self.assertEqual(("back", worth(end[1], setting)), plain[1])
        else:
            self.assertEqual(end, plain[1])
        self.assertEqual((way, many), plain[2:])
        self.assertIsNone(first_broken(conditions, setting))
        self.assertEqual([turn for turn, form in conditions], sorted(turn for turn, form in conditions))
        return result

    def conditions(self, due, *rows, **more):
        self.assertEqual(self.agrees(text(*rows), **more)[4], due)

    def part(self, form, part, *ahead):
        """A part's form, of the knobs in the lines ahead and then its own."""
        source = text(*ahead, "tell " + part, "back " + part)
        told, end, way, many, conditions = self.agrees(source)
        self.assertEqual(told, (form,), part)


class Told(TracedCase):
    def test_kinds_of_what_is_told(self):
        result = traced(text("tell 4", "if 1 < 2", "  tell !5", "back 6"))
        due = (((0, ((0, 1),)), (5, ())), ("back", (0, ((3, 1),))), ((1, "yes"),), 4, [(0, (-1, ((1, -1), (2, 1))))])
        self.assertEqual(result, due)
        told, end, way, many, conditions = result
        for thing in (result, told, *told, end, end[1], way, way[0], conditions[0], conditions[0][1]):
            self.assertIs(type(thing), tuple)
        self.assertIs(type(conditions), list)
        for thing in (told[0][0], told[1][0], end[1][0], many, conditions[0][0]):
            self.assertIs(type(thing), int)

    def test_nothing_told(self):
        self.assertEqual(traced("back !1"), ((), ("back", (1, ())), (), 1, []))

    def test_forms(self):
        self.part((0, ((0, 1),)), "5")
        self.part((5, ()), "!5")
        self.part((0, ((0, 1), (1, 1))), "5 + 6")
        self.part((-3, ((0, 1), (1, -1))), "5 - !3 - 6")
        self.part((0, ((0, 1), (1, 1))), "a + 6", "a = 5")
        self.part((6, ((0, 4),)), "( a + a + !3 ) * !2", "a = 5")
        self.part((6, ((0, 4),)), "!2 * ( a + a + !3 )", "a = 5")
        self.part((0, ((0, -2),)), "!-2 * a", "a = 5")
        self.part((0, ()), "x")
        self.part((4, ()), "len l", "l = [ 1 , 2 , 3 , 4 ]")
        self.part((0, ((1, 1),)), "l [ !1 ]", "l = [ 1 , 2 ]")
        self.part((7, ()), "l [ 1 ]", "l = [ 1 , !7 ]")

    def test_held_with_the_form_of_nought(self):
        self.part((0, ()), "a - a", "a = 5")
        self.part((0, ()), "a * !0", "a = 5")
        self.part((0, ()), "!0 * a", "a = 5")
        self.part((3, ()), "a + !3 - a", "a = 5")
        # Held all the same: a product is bent, a test is a turn.
        self.assertEqual(traced(text("a = 5", "back ( a - a ) * a"))[1], ("fault", "bent", 1))
        self.conditions([(0, (2, ()))], "a = 5", "if a - a < !3", "  tell 1", "back 0")
        self.conditions([(0, (0, ())), (0, (0, ()))], "a = 5", "if a == a", "  tell 1", "back 0")
        self.conditions([(0, (0, ())), (0, (0, ()))], "a = 5", "l = [ !4 ]", "tell l [ a - a ]", "back 0")

    def test_quotients_are_just_numbers_and_rests_are_forms(self):
        self.part((2, ()), "a // !2", "a = 5")
        self.part((-4, ((0, 1),)), "a rest !2", "a = 5")
        self.part((6, ((0, 1),)), "a rest !2", "a = -5")
        self.part((0, ((0, 1),)), "a rest !2", "a = 1")
        self.part((-7, ((0, 1), (1, 1))), "( a + b + !3 ) rest !5", "a = 5", "b = 4")
        self.part((1, ()), "!5 rest !2")
        # The rest of a rest.
        self.part((-9, ((0, 1),)), "( a rest !10 ) rest !3", "a = 9")
        self.part((-19, ((0, 1),)), "( a rest !10 ) rest !3", "a = 19")

    def test_through_calls_lists_and_each(self):
        source = text("def f a b", "  c = a + a - b", "  back [ c , 7 ]", "l = f ( 1 , 2 ) + [ !9 ]", "each x in l", "  tell x",
                      "back x")
        told, end, way, many, conditions = self.agrees(source)
        self.assertEqual(told, ((0, ((1, 2), (2, -1))), (0, ((0, 1),)), (9, ())))
        self.assertEqual(end, ("back", (9, ())))

    def test_a_knob_met_many_times_is_one(self):
        told = self.agrees(text("while x < 3", "  x = x + 1", "tell x", "back x"))[0]
        self.assertEqual(told, ((0, ((1, 3),)),))

    def test_great_numbers(self):
        source = text("a = %d" % GREAT, "tell a * !%d" % GREAT, "tell a * !7 rest !%d" % GREAT, "back a - 1")
        told, end, way, many, conditions = self.agrees(source)
        self.assertEqual(told, ((0, ((0, GREAT),)), (-7 * GREAT, ((0, 7),))))
        self.assertEqual(end, ("back", (0, ((0, 1), (1, -1)))))
        self.assertEqual(conditions, [(0, (-7 * GREAT, ((0, 7),))), (0, (8 * GREAT - 1, ((0, -7),)))])

    def test_thirty_knobs(self):
        source = text("a = " + " + ".join(["2"] * 30), "tell a * !3", "back a")
        told, end, way, many, conditions = self.agrees(source)
        self.assertEqual(told, ((0, tuple((k, 3) for k in range(30))),))

    def test_faults(self):
        told, end, way, many, conditions = self.agrees(text("tell 4", "tell 5 * 6", "back 0"))
        self.assertEqual((told, end, way, many, conditions), (((0, ((0, 1),)),), ("fault", "bent", 1), (), 2, []))

    def test_steps(self):
        source = text("while x < 2", "  x = x + !1", "back 0")
        for steps in range(8):
            self.agrees(source, steps=steps)
        self.assertEqual(traced(source, steps=3)[1], ("fault", "steps", 1))
        self.assertEqual(traced(source, steps=3)[4], [(0, (-1, ((0, 1),))), (1, (-2, ((0, 1),)))])
        loop = text("while 1 < 2", "  x = !1", "back 0")
        self.assertEqual(traced(loop)[3], 300)
        self.assertEqual(traced(loop, steps=1000)[3], 1000)

    def test_settings(self):
        source = text("a = 1", "if a < 2", "  tell a + 3", "back 4")
        for setting in ([1, 2, 3, 4], [2, 2, 0, 0], [GREAT, -GREAT, 1, 2], [-GREAT, GREAT, GREAT, -GREAT]):
            kept = list(setting)
            self.agrees(source, setting=setting)
            self.assertEqual(setting, kept)
        self.assertEqual(traced(source, setting=[1, 2, 3, 4]), traced(source))
        self.assertEqual(traced(source, setting=None), traced(source))

    def test_lists_told_are_new(self):
        source = text("if 1 < 2", "  tell 3", "back 4")
        first = traced(source)[4]
        first.append(None)
        self.assertEqual(traced(source)[4], [(0, (-1, ((0, -1), (1, 1))))])


class Tests(TracedCase):
    def out(self, out, due, test):
        told, end, way, many, conditions = self.agrees(text("if " + test, "  tell 0", "back 0"))
        self.assertEqual((way, conditions), (((0, out),), due), test)

    def test_less(self):
        self.out("yes", [(0, (-1, ((0, -1), (1, 1))))], "1 < 2")
        self.out("no", [(0, (0, ((0, 1), (1, -1))))], "2 < 2")
        self.out("yes", [(0, (4, ((0, -1),)))], "1 < !5")
        self.out("no", [(0, (-5, ((0, 1),)))], "6 < !5")
        self.out("yes", [(0, (-6, ((0, 1),)))], "!5 < 6")
        self.out("no", [(0, (5, ((0, -1),)))], "!5 < 1")

    def test_at_most(self):
        self.out("yes", [(0, (0, ((0, -1), (1, 1))))], "2 <= 2")
        self.out("no", [(0, (-1, ((0, 1), (1, -1))))], "3 <= 2")
        self.out("yes", [(0, (5, ((0, -1),)))], "1 <= !5")
        self.out("no", [(0, (-6, ((0, 1),)))], "6 <= !5")
        self.out("yes", [(0, (-5, ((0, 1),)))], "!5 <= 6")
        self.out("no", [(0, (4, ((0, -1),)))], "!5 <= 1")

    def test_equal(self):
        self.out("less", [(0, (-1, ((0, -1), (1, 1))))], "1 == 2")
        self.out("same", [(0, (0, ((0, 1), (1, -1)))), (0, (0, ((0, -1), (1, 1))))], "2 == 2")
        self.out("more", [(0, (-1, ((0, 1), (1, -1))))], "3 == 2")
        self.out("less", [(0, (4, ((0, -1),)))], "1 == !5")
        self.out("same", [(0, (-5, ((0, 1),))), (0, (5, ((0, -1),)))], "5 == !5")
        self.out("more", [(0, (-6, ((0, 1),)))], "6 == !5")

    def test_while_at_each_look(self):
        self.conditions(
            [(0, (-1, ((0, 1),))), (1, (-1, ((0, 1), (1, -1)))), (2, (0, ((0, -1), (1, 2))))],
            "while x < 2", "  x = x + 1", "back x",
        )

    def test_what_is_not_held_is_no_turn(self):
        self.conditions([], "l = [ 1 , 2 ]", "if len l == !2", "  tell l [ !1 ]", "back !7 // !2")


class Cells(TracedCase):
    ahead = "l = [ !5 , !6 , !7 ]"

    def test_a_number(self):
        for place in range(3):
            due = [(0, (-place, ((0, 1),))), (0, (place, ((0, -1),)))]
            self.conditions(due, self.ahead, "tell l [ %d ]" % place, "back 0")

    def test_below_and_beyond_ahead_of_the_fault(self):
        for place in (-1, -4, -GREAT):
            self.conditions([(0, (-1, ((0, -1),)))], self.ahead, "tell l [ %d ]" % place, "back 0")
        for place in (3, 4, GREAT):
            self.conditions([(0, (-3, ((0, 1),)))], self.ahead, "tell l [ %d ]" % place, "back 0")
        self.conditions([(0, (0, ((0, 1),)))], "l = [ ]", "tell l [ 0 ]", "back 0")
        told, end, way, many, conditions = traced(text(self.ahead, "tell l [ 3 ]", "back 0"))
        self.assertEqual((end, way), (("fault", "place", 1), ((1, "beyond"),)))

    def test_a_sum_for_a_number(self):
        due = [(0, (-5, ((0, 1), (1, 2)))), (0, (5, ((0, -1), (1, -2))))]
        self.conditions(due, "a = 1", "b = 2", self.ahead, "tell l [ a + b + b - !3 ]", "back 0")


class Quotients(TracedCase):
    def test_quotients_and_rests(self):
        for number, quotient in ((7, 2), (-7, -3), (0, 0), (2, 0), (3, 1), (-1, -1), (8, 2)):
            for sign in ("//", "rest"):
                due = [(0, (-3 * quotient, ((0, 1),))), (0, (3 * quotient + 2, ((0, -1),)))]
                self.conditions(due, "tell %d %s !3" % (number, sign), "back 0")

    def test_by_one(self):
        self.conditions([(0, (-7, ((0, 1),))), (0, (7, ((0, -1),)))], "tell 7 // !1", "back 0")

    def test_of_a_sum(self):
        due = [(0, (-5, ((0, 2), (1, 1)))), (0, (14, ((0, -2), (1, -1))))]
        self.conditions(due, "a = 4", "tell ( a + a + 3 + !5 ) // !10", "back 0")

    def test_a_great_quotient_ahead_of_its_fault(self):
        source = text("a = %d" % GREAT, "tell a * !10 // !1", "back 0")
        told, end, way, many, conditions = self.agrees(source)
        self.assertEqual((end, way), (("fault", "great", 1), ((1, GREAT * 10),)))
        self.assertEqual(conditions, [(0, (-10 * GREAT, ((0, 10),))), (0, (10 * GREAT, ((0, -10),)))])
        # A rest asks of it no great.
        self.assertEqual(self.agrees(source.replace("//", "rest"))[0], ((-10 * GREAT, ((0, 10),)),))

    def test_a_rest_of_a_rest(self):
        due = [(0, (-10, ((0, 1),))), (0, (19, ((0, -1),))), (1, (-16, ((0, 1),))), (1, (18, ((0, -1),)))]
        self.conditions(due, "tell 17 rest !10 rest !3", "back 0")


class Order(TracedCase):
    def test_in_the_order_of_the_way(self):
        source = text("l = [ 3 , !4 ]", "if l [ 1 ] + 5 // !2 == 6 rest !4", "  tell 0", "back 0")
        told, end, way, many, conditions = self.agrees(source)
        self.assertEqual(way, ((1, 1), (1, 2), (1, 1), (1, "more")))
        self.assertEqual(conditions, [
            (0, (-1, ((1, 1),))), (0, (1, ((1, -1),))),
            (1, (-4, ((2, 1),))), (1, (5, ((2, -1),))),
            (2, (-4, ((3, 1),))), (2, (7, ((3, -1),))),
            (3, (9, ((3, -1),))),
        ])

    def test_the_promise_near_each_edge(self):
        """The way is the same just where all conditions hold, and then the forms tell."""
        for source in (
            text("if 1 < 2", "  tell 3", "back 4"),
            text("if 1 <= 2", "  tell 3", "back 4"),
            text("if 2 == 2", "  tell 3", "back 4"),
            text("l = [ 3 , !4 , !5 ]", "tell l [ 1 ] + 2 // !3", "back 4 rest !2"),
            text("x = 3", "while x < 4", "  x = x + 1", "  tell x rest !3", "back x // !2"),
        ):
            many = len(knobs(source))
            told, end, way, lines, conditions = self.agrees(source)
            for knob in range(many):
                for other in range(many):
                    for number in NEAR:
                        for figure in NEAR[1:9:2]:
                            setting = knobs(source)
                            setting[other] = figure
                            setting[knob] = number
                            plain = run(source, setting=setting)
                            broken = first_broken(conditions, setting)
                            self.assertEqual(plain[2] == way, broken is None, (source, setting))
                            if broken is None:
                                self.assertEqual(plain[0], tuple(worth(form, setting) for form in told))
                                self.assertEqual(plain[1], ("back", worth(end[1], setting)))
                                self.assertEqual(plain[3], lines)
                            else:
                                self.assertEqual(plain[2][:broken], way[:broken])
                                self.assertNotEqual(plain[2][broken], way[broken])


class FirstBroken(unittest.TestCase):
    conditions = [(0, (0, ((0, 1),))), (0, (3, ((0, -1),))), (1, (-2, ((1, 1),))), (4, (-1, ((0, 1), (1, 1))))]

    def test_none_is_broken(self):
        self.assertIsNone(first_broken([], []))
        self.assertIsNone(first_broken([], [1]))
        self.assertIsNone(first_broken(self.conditions, [3, 2]))

    def test_a_worth_of_nought_is_none_broken(self):
        self.assertIsNone(first_broken(self.conditions, [0, 2]))
        self.assertIsNone(first_broken([(0, (0, ()))], []))
        self.assertEqual(first_broken([(7, (-1, ()))], []), 7)

    def test_the_first_one(self):
        self.assertEqual(first_broken(self.conditions, [-1, 0]), 0)
        self.assertEqual(first_broken(self.conditions, [4, 0]), 0)
        self.assertEqual(first_broken(self.conditions, [3, 1]), 1)
        self.assertEqual(first_broken(self.conditions[:2] + self.conditions[3:], [0, 0]), 4)
        self.assertEqual(first_broken(self.conditions, [-GREAT, GREAT]), 0)

    def test_a_setting_longer_than_needed(self):
        self.assertIsNone(first_broken(self.conditions, [3, 2, -9, -9]))

    def test_by_the_names_shown_and_what_is_handed_in_stays(self):
        conditions, setting = list(self.conditions), [3, 1]
        self.assertEqual(first_broken(conditions=conditions, setting=setting), 1)
        self.assertEqual((conditions, setting), (self.conditions, [3, 1]))


class Refused(unittest.TestCase):
    def test_no_text(self):
        for thing, line in ((None, 0), (7, 0), ("tell 1", 1), (["back 1"], 0), ("x = 1\nback", 1)):
            with self.assertRaises(NoText) as caught:
                traced(thing, setting=[1, 2, 3])
            self.assertEqual(caught.exception.line, line)

    def test_no_knob(self):
        for setting in ([], [1], [1, 2, 3]):
            with self.assertRaises(NoKnob) as caught:
                traced("back 1 + 2", setting=setting)
            self.assertEqual(caught.exception.number, 2)

    def test_by_the_names_shown(self):
        self.assertEqual(traced(text="back 1", setting=[4], steps=0), ((), ("fault", "steps", 0), (), 0, []))
        with self.assertRaises(TypeError):
            traced("back 1", [4])
        with self.assertRaises(TypeError):
            traced("back 1", None, 4)


if __name__ == "__main__":
    unittest.main()
