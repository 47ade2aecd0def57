"""follow, and the store Ways."""

import copy
import unittest

from tugline.errors import NoKnob, NoText, TugError
from tugline.plain import run
from tugline.traced import first_broken, traced
from tugline.ways import Ways, follow

GREAT = 10 ** 60 - 1
NO_TEXTS = ((None, 0), (True, 0), (7, 0), (["back 1"], 0), ("", 0), ("tell 1", 1), ("x = 1\nback", 1))


def text(*rows):
    return "\n".join(rows)


def k(knob, many=1, number=0):
    return number, ((knob, many),)


TREE = text("x = 5", "if x < 9", "  tell x // !2", "else", "  l = [ !1 , !2 ]", "  tell l [ x ]", "tell 3", "back x")
# A loop of as many rounds as x is.
LOOP = text("x = 3", "while y < x", "  y = y + !1", "tell y", "back x")


class Follow(unittest.TestCase):
    def test_a_run_s_own_way(self):
        for source in (TREE, LOOP, "back 1", "back !1", text("tell 1", "x = 2 * 3", "back 0")):
            told, end, way, many, conditions = traced(source)
            self.assertEqual(follow(source, way), (told, end, many, conditions))
        found = follow(TREE, ((1, "yes"), (2, 2)))
        self.assertEqual(found, (
            ((2, ()), k(2)), ("back", k(0)), 5,
            [(0, (-1, ((0, -1), (1, 1)))), (1, k(0, 1, -4)), (1, k(0, -1, 5))],
        ))
        self.assertEqual([type(part) for part in found], [tuple, tuple, int, list])

    def test_the_way_of_another_setting(self):
        due = (((2, ()), k(2)), ("back", k(0)), 6,
               [(0, (0, ((0, 1), (1, -1)))), (1, k(0, 1, -1)), (1, k(0, -1, 1))])
        self.assertEqual(follow(TREE, ((1, "no"), (5, 1))), due)
        for out, condition in (("below", k(0, -1, -1)), ("beyond", k(0, 1, -2))):
            self.assertEqual(follow(TREE, ((1, "no"), (5, out))), (
                (), ("fault", "place", 5), 4, [(0, (0, ((0, 1), (1, -1)))), (1, condition)],
            ))

    def test_a_way_that_no_setting_goes(self):
        source = text("x = 5", "if x < x", "  tell !1", "tell !2", "back x")
        self.assertEqual(follow(source, ((1, "yes"),)), (((1, ()), (2, ())), ("back", k(0)), 5, [(0, (-1, ()))]))
        self.assertEqual(follow(source, ((1, "no"),)), (((2, ()),), ("back", k(0)), 4, [(0, (0, ()))]))
        source = text("x = 5", "if x < !3", "  tell x", "if !3 < x", "  tell !4", "back !0")
        found = follow(source, ((1, "yes"), (3, "yes")))
        self.assertEqual(found, ((k(0), (4, ())), ("back", (0, ())), 6, [(0, k(0, -1, 2)), (1, k(0, 1, -4))]))
        source = text("x = 5", "tell ( x - x ) // !4", "tell ( x - x ) rest !4", "back !0")
        self.assertEqual(follow(source, ((1, 7), (2, -8))), (
            ((7, ()), (32, ())), ("back", (0, ())), 4, [(0, (-28, ())), (0, (31, ())), (1, (32, ())), (1, (-29, ()))],
        ))
        source = text("l = [ !6 , !7 ]", "x = 5", "tell l [ x - x ]", "back !0")
        self.assertEqual(follow(source, ((2, 1),)), (((7, ()),), ("back", (0, ())), 4, [(0, (-1, ())), (0, (1, ()))]))

    def test_each_outcome_of_a_test(self):
        rise, fall = ((0, -1), (1, 1)), ((0, 1), (1, -1))
        for sign, outs in (
            ("<", {"yes": [(-1, rise)], "no": [(0, fall)]}),
            ("<=", {"yes": [(0, rise)], "no": [(-1, fall)]}),
            ("==", {"less": [(-1, rise)], "same": [(0, fall), (0, rise)], "more": [(-1, fall)]}),
        ):
            source = text("if 1 %s 2" % sign, "  tell !1", "else", "  tell !2", "back !0")
            for out in ("yes", "no", "less", "same", "more", "below", "beyond", 0, 1):
                due = 0
                if out in outs:
                    told = 1 if out in ("yes", "same") else 2
                    due = (((told, ()),), ("back", (0, ())), 3, [(0, form) for form in outs[out]])
                self.assertEqual(follow(source, ((0, out),)), due, (sign, out))

    def test_cells_of_that_list(self):
        for long in range(4):
            source = text("l = [ %s ]" % " , ".join(["!%d" % k for k in range(long)]), "tell l [ 1 ]", "back !0").replace("[  ]", "[ ]")
            for out in (-1, long, long + 1, GREAT, "yes", "same", True, False, None, "0"):
                self.assertEqual(follow(source, ((1, out),)), 0, (long, out))
            for out in range(long):
                self.assertEqual(follow(source, ((1, out),))[:2], (((out, ()),), ("back", (0, ()))))
            for out in ("below", "beyond"):
                self.assertEqual(follow(source, ((1, out),))[:2], ((), ("fault", "place", 1)))

    def test_quotients_however_great(self):
        source = text("tell 5 // !7", "back !0")
        for quotient in (0, 1, -1, GREAT, -GREAT):
            self.assertEqual(follow(source, ((0, quotient),)), (
                ((quotient, ()),), ("back", (0, ())), 2, [(0, k(0, 1, -7 * quotient)), (0, k(0, -1, 7 * quotient + 6))],
            ))
        for quotient in (GREAT + 1, -GREAT - 1, 10 ** 70, -10 ** 200, 10 ** 800):
            self.assertEqual(follow(source, ((0, quotient),)), (
                (), ("fault", "great", 0), 1, [(0, k(0, 1, -7 * quotient)), (0, k(0, -1, 7 * quotient + 6))],
            ))
            # A rest asks of it no great.
            rest = text("tell 5 rest !7", "back !0")
            self.assertEqual(follow(rest, ((0, quotient),))[0], (k(0, 1, -7 * quotient),))
        for out in ("yes", "below", None, True, False, "1", (1,), [1], ()):
            self.assertEqual(follow(source, ((0, out),)), 0)

    def test_what_is_not_held_is_no_turn(self):
        source = text("if !1 < !2", "  tell !7 // !2", "l = [ 5 ]", "tell l [ !0 ]", "tell ( !7 + len l ) rest !5", "back !0")
        self.assertEqual(follow(source, ()), (((3, ()), k(0), (3, ())), ("back", (0, ())), 6, []))
        self.assertEqual(follow(source, ((0, "yes"),)), 0)
        self.assertEqual(follow(text("if !3 < !2", "  tell !1", "back !0"), ()), ((), ("back", (0, ())), 2, []))
        # A quotient of a held one isn't held.
        source = text("x = 5 // !2", "if x < !3", "  tell x", "back !0")
        self.assertEqual(follow(source, ((0, 3),))[0], ())
        self.assertEqual(follow(source, ((0, 2),))[0], ((2, ()),))

    def test_faults_ahead_of_a_turn(self):
        self.assertEqual(follow("back 5 // !0", ()), ((), ("fault", "nought", 0), 1, []))
        self.assertEqual(follow("back 5 // !0", ((0, 1),)), 0)
        self.assertEqual(follow("back 5 // 2", ()), ((), ("fault", "bent", 0), 1, []))
        self.assertEqual(follow(text("l = [ ]", "if l < 3", "  x = !1", "back !0"), ()), ((), ("fault", "kind", 1), 2, []))
        self.assertEqual(follow("back x [ 5 ]", ()), ((), ("fault", "kind", 0), 1, []))

    def test_calls(self):
        source = text("def f a", "  if a < !3", "    back a", "  back !0 - a", "tell f ( 4 )", "tell f ( 5 )", "back !0")
        found = follow(source, ((1, "yes"), (1, "no")))
        self.assertEqual(found[:3], ((k(0), k(1, -1)), ("back", (0, ())), 7))
        self.assertEqual(follow(source, ((1, "no"), (4, "yes"))), 1)

    def test_steps(self):
        way = ((1, "yes"), (1, "yes"), (1, "no"))
        self.assertEqual(follow(LOOP, way)[:3], (((2, ()),), ("back", k(0)), 8))
        self.assertEqual(follow(LOOP, way, steps=8)[:3], (((2, ()),), ("back", k(0)), 8))
        self.assertEqual(follow(LOOP, way, steps=7)[:3], (((2, ()),), ("fault", "steps", 4), 7))
        # The third entry would be of a line that isn't begun.
        self.assertEqual(follow(LOOP, way, steps=5), 2)
        self.assertEqual(follow(LOOP, way[:2], steps=5)[:3], ((), ("fault", "steps", 1), 5))
        self.assertEqual(follow(LOOP, (), steps=1), ((), ("fault", "steps", 1), 1, []))
        self.assertEqual(follow(LOOP, (), steps=0), ((), ("fault", "steps", 0), 0, []))
        self.assertEqual(follow(LOOP, (), steps=2), 0)
        # Three hundred if nothing is said.
        long = ((1, "yes"),) * 149
        self.assertEqual(follow(LOOP, long), 149)
        self.assertEqual(follow(LOOP, long + ((1, "no"),))[:3], ((), ("fault", "steps", 3), 300))
        self.assertEqual(follow(LOOP, long + ((1, "yes"),))[:3], ((), ("fault", "steps", 2), 300))
        self.assertEqual(follow(LOOP, long + ((1, "yes"), (1, "yes"))), 150)
        self.assertEqual(follow(LOOP, long + ((1, "no"),), steps=1000)[:3], (((149, ()),), ("back", k(0)), 302))


class NoWay(unittest.TestCase):
    WAY = ((1, "yes"), (1, "yes"), (1, "no"))

    def test_no_tuple(self):
        for thing in (None, True, False, 0, 1, "", "way", [], list(self.WAY), [[1, "yes"]], GREAT):
            self.assertEqual(follow(LOOP, thing), 0)
            self.assertEqual(follow("back !1", thing), 0)

    def test_one_too_few(self):
        for many in range(3):
            self.assertEqual(follow(LOOP, self.WAY[:many]), many)
        self.assertEqual(follow(TREE, ()), 0)

    def test_one_too_many(self):
        self.assertEqual(follow(LOOP, self.WAY + ((1, "no"),)), 3)
        self.assertEqual(follow(LOOP, self.WAY + (None, None)), 3)
        self.assertEqual(follow("back !1", ((0, "yes"),)), 0)
        self.assertEqual(follow(TREE, ((1, "no"), (5, "below"), (6, 1))), 2)

    def test_a_wrong_entry(self):
        wrong = (
            (0, "yes"), (2, "yes"), (-1, "yes"), (GREAT, "yes"), (True, "yes"), (None, "yes"), ("1", "yes"), ((1,), "yes"), ([1], "yes"),
            (1, "same"), (1, "less"), (1, "more"), (1, "below"), (1, 0), (1, 1), (1, True), (1, False), (1, None), (1, "Yes"), (1, ""),
            (1, ("yes",)), (1, ["yes"]), [1, "yes"], (1, "yes", 0), (1, "yes", "yes"), (1,), (), None, "yes", "1:yes", 1, True, "1y",
            ((1, "yes"),), ["1", "yes"], (), ("yes", 1),
        )
        for entry in wrong:
            for at in range(3):
                bent = self.WAY[:at] + (entry,) + self.WAY[at + 1:]
                kept = copy.deepcopy(bent)
                self.assertEqual(follow(LOOP, bent), at, bent)
                self.assertEqual(bent, kept)
            self.assertEqual(follow(LOOP, (entry,) * 4), 0)

    def test_the_first_one_of_several(self):
        self.assertEqual(follow(LOOP, ((1, "yes"), (1, "maybe"), (7, "no"), None)), 1)
        self.assertEqual(follow(LOOP, ((1, "yes"), (1, "no"), (7, "no"), None)), 2)
        self.assertEqual(follow(TREE, ((1, "no"), (2, 2))), 1)

    def test_deep_things(self):
        deep = ()
        for _ in range(7):
            deep = (deep, [deep])
        self.assertEqual(follow(LOOP, deep), 0)
        self.assertEqual(follow(LOOP, (deep,)), 0)
        self.assertEqual(follow(LOOP, ((1, deep),)), 0)
        self.assertEqual(follow(LOOP, ((deep, "yes"),)), 0)

    def test_no_text_goes_first(self):
        for thing, line in NO_TEXTS:
            for way in ((), None, [], ((0, "yes"),)):
                with self.assertRaises(NoText) as caught:
                    follow(thing, way)
                self.assertEqual(caught.exception.line, line)

    def test_by_the_names_shown(self):
        self.assertEqual(follow(way=self.WAY, text=LOOP, steps=8)[2], 8)
        with self.assertRaises(TypeError):
            follow(LOOP, self.WAY, 8)

    def test_what_is_told_is_new(self):
        follow(LOOP, self.WAY)[3].clear()
        self.assertEqual(len(follow(LOOP, self.WAY)[3]), 3)


class Store(unittest.TestCase):
    def way(self, x):
        return ((1, "yes"),) * x + ((1, "no"),)

    def test_a_new_store(self):
        store = Ways(LOOP)
        self.assertEqual((store.ways(), store.runs(), store.broken([3])), ([], 0, []))

    def test_ask(self):
        source = text("x = 5", "if x < 9", "  tell x + 2", "back x - !1")
        store = Ways(source)
        for setting in ([5, 9, 2], [9, 9, 2], [8, 9, -7], [-GREAT, GREAT, 0], [GREAT, -GREAT, GREAT], [3, 2, 1], [2, 3, 1]):
            told, end, _, _ = run(source, setting=setting)
            found = store.ask(setting)
            self.assertEqual(found, (told, end))
            self.assertEqual((type(found), type(found[0]), type(found[1])), (tuple, tuple, tuple))
        self.assertEqual(store.runs(), 2)
        self.assertEqual(store.ways(), [((1, "yes"),), ((1, "no"),)])

    def test_faults(self):
        source = text("tell 3", "l = [ 5 , !6 ]", "tell l [ 0 ]", "back 0")
        store = Ways(source)
        for place in (2, 3, 99, -1, -2, 0, 0, 1, 1):
            setting = [place + 1, place - 1, place, place]
            self.assertEqual(store.ask(setting), run(source, setting=setting)[:2])
        self.assertEqual(store.runs(), 4)
        self.assertEqual(store.ways(), [((2, "beyond"),), ((2, "below"),), ((2, 0),), ((2, 1),)])

    def test_a_text_of_one_way(self):
        store = Ways("back 1")
        self.assertEqual([store.ask([k]) for k in (3, 4, -GREAT)], [((), ("back", 3)), ((), ("back", 4)), ((), ("back", -GREAT))])
        self.assertEqual((store.ways(), store.runs(), store.broken([9])), ([()], 1, [None]))
        store = Ways("back !1", room=1)
        self.assertEqual([store.ask([]), store.ask([])], [((), ("back", 1))] * 2)
        self.assertEqual((store.ways(), store.runs()), ([()], 1))

    def test_room_for_one(self):
        store = Ways(LOOP, room=1)
        ran = 0
        for x in (3, 3, 4, 4, 3, 0, 0, 3):
            ran += [self.way(x)] != store.ways()
            self.assertEqual(store.ask([x]), ((x,), ("back", x)))
            self.assertEqual((store.ways(), store.runs()), ([self.way(x)], ran))
        self.assertEqual(ran, 5)

    def test_the_eldest_goes_out(self):
        store = Ways(LOOP, room=3)
        for x in (1, 2, 3):
            store.ask([x])
        self.assertEqual(store.ways(), [self.way(1), self.way(2), self.way(3)])
        # The first one was met longest ago, though it was asked just now.
        store.ask([1])
        self.assertEqual((store.ways(), store.runs()), ([self.way(1), self.way(2), self.way(3)], 3))
        store.ask([4])
        self.assertEqual((store.ways(), store.runs()), ([self.way(2), self.way(3), self.way(4)], 4))
        # Met anew, it is the youngest.
        store.ask([1])
        self.assertEqual((store.ways(), store.runs()), ([self.way(3), self.way(4), self.way(1)], 5))
        store.ask([3])
        store.ask([7])
        self.assertEqual((store.ways(), store.runs()), ([self.way(4), self.way(1), self.way(7)], 6))

    def test_room_for_thirty(self):
        store = Ways(LOOP)
        for x in range(32):
            store.ask([x])
        self.assertEqual(store.ways(), [self.way(x) for x in range(2, 32)])
        self.assertEqual(store.runs(), 32)

    def test_broken(self):
        store = Ways(LOOP)
        for x in (2, 0, 5):
            store.ask([x])
        self.assertEqual(store.broken([2]), [None, 0, 2])
        self.assertEqual(store.broken([0]), [0, None, 0])
        self.assertEqual(store.broken([5]), [2, 0, None])
        self.assertEqual(store.broken([9]), [2, 0, 5])
        self.assertEqual(store.broken([3]), [2, 0, 3])
        self.assertEqual((store.ways(), store.runs()), ([self.way(2), self.way(0), self.way(5)], 3))

    def test_no_setting_meets_two(self):
        store = Ways(TREE)
        settings = [[x, y, 3] for x in range(-4, 12) for y in (-1, 3, 9)]
        for setting in settings:
            store.ask(setting)
        for setting in settings:
            broken = store.broken(setting)
            self.assertEqual(broken.count(None), 1)
            way = run(TREE, setting=setting)[2]
            self.assertEqual(store.ways()[broken.index(None)], way)
            conditions = [traced(TREE, setting=other)[4] for other in settings]
            self.assertEqual({first_broken(rows, setting) for rows in conditions}, set(broken))

    def test_steps(self):
        store = Ways(LOOP, steps=4)
        for x in (0, 0, -5, 1, 2, 9, GREAT):
            self.assertEqual(store.ask([x]), run(LOOP, setting=[x], steps=4)[:2])
        self.assertEqual(store.runs(), 3)
        store = Ways(LOOP)
        self.assertEqual(store.ask([500]), ((), ("fault", "steps", 2)))
        self.assertEqual(store.ask([148])[1], ("back", 148))

    def test_stores_side_by_side(self):
        one, other = Ways(LOOP), Ways(LOOP)
        one.ask([3])
        self.assertEqual((other.ways(), other.runs(), other.broken([3])), ([], 0, []))
        other.ask([4])
        self.assertEqual((one.ways(), one.runs(), one.broken([3])), ([self.way(3)], 1, [None]))

    def test_what_is_told_is_new_and_what_is_handed_in_stays(self):
        store = Ways(LOOP)
        setting = [3]
        store.ask(setting)
        store.broken(setting)
        self.assertEqual(setting, [3])
        setting[0] = 4
        store.ways().clear()
        store.broken([3]).append(9)
        self.assertEqual((store.ways(), store.broken([3]), store.runs()), ([self.way(3)], [None], 1))
        self.assertEqual(store.ask([3]), ((3,), ("back", 3)))

    def test_as_written(self):
        store = Ways(LOOP)
        self.assertEqual(store.ask(None), ((3,), ("back", 3)))
        self.assertEqual(store.broken(None), [None])

    def test_refused(self):
        for thing, line in NO_TEXTS:
            with self.assertRaises(NoText) as caught:
                Ways(thing)
            self.assertEqual(caught.exception.line, line)
        store = Ways(TREE)
        store.ask([5, 9, 3])
        ahead = store.ways()
        for setting in ([], [1], [1, 2], [1, 2, 3, 4]):
            for call in (store.ask, store.broken):
                with self.assertRaises(NoKnob) as caught:
                    call(setting)
                self.assertEqual(caught.exception.number, 3)
                self.assertIsInstance(caught.exception, TugError)
            self.assertEqual((store.ways(), store.runs()), (ahead, 1))
        with self.assertRaises(NoKnob) as caught:
            Ways("back !1").ask([1])
        self.assertEqual(caught.exception.number, 0)

    def test_by_the_names_shown(self):
        store = Ways(text=LOOP, steps=9, room=2)
        self.assertEqual(store.ask(setting=[2]), ((2,), ("back", 2)))
        self.assertEqual(store.broken(setting=[2]), [None])
        with self.assertRaises(TypeError):
            Ways(LOOP, 2)


if __name__ == "__main__":
    unittest.main()
