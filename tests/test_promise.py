"""The promise on made texts: forms, conditions, stretches and partings against runs."""

import unittest

from tests.reference import Runner
from tests.test_chance import made
from tests.tame import TameMaker
from tugline.forms import along, worth
from tugline.plain import run
from tugline.stretches import border, parting, stretch, wrong_row
from tugline.traced import first_broken, traced

GREAT = 10 ** 60 - 1
# Long ways are looked at no further: a loop tells nothing new in its later rounds.
STEPS = 60


def texts(wild, tame):
    """So many texts of each kind, each with its chance and its maker."""
    for seed in range(wild):
        yield made(seed)
    for seed in range(tame):
        yield made(seed, TameMaker)


def near_edges(chance, conditions, setting):
    """Settings at which a condition is just about to break, each by one knob."""
    some = chance.sample(conditions, min(3, len(conditions)))
    for turn, (number, parts) in some:
        for knob, many in parts[:3]:
            start, slope = along((number, parts), knob, setting)
            for step in (-1, 0, 1):
                moved = list(setting)
                moved[knob] = -start // slope + step
                yield moved


class Traced(unittest.TestCase):
    def test_against_the_second_way_of_running(self):
        outs = set()
        for chance, maker, source in texts(700, 300):
            for setting in (maker.knobs, [maker.number() for _ in maker.knobs]):
                steps = chance.choice((300, 300, 20, 5))
                found = traced(source, setting=setting, steps=steps)
                self.assertEqual(found, Runner(maker, setting, steps).traced(), (source, setting))
                outs |= {out if isinstance(out, str) else min(2, max(-2, out)) for line, out in found[2]}
        # Each kind of turn is met, or the texts are too tame to say anything.
        self.assertEqual(len(outs), 12, outs)

    def test_one_way_just_where_all_conditions_hold(self):
        same = other = 0
        for chance, maker, source in texts(300, 300):
            told, end, way, many, conditions = traced(source, steps=STEPS)
            settings = list(near_edges(chance, conditions, maker.knobs))
            settings += [[maker.number() for _ in maker.knobs], [number + chance.randint(-1, 1) for number in maker.knobs]]
            for setting in settings:
                plain = run(source, setting=setting, steps=STEPS)
                broken = first_broken(conditions, setting)
                if broken is None:
                    same += 1
                    due = tuple(worth(form, setting) for form in told)
                    due_end = ("back", worth(end[1], setting)) if end[0] == "back" else end
                    self.assertEqual(plain, (due, due_end, way, many), (source, setting))
                else:
                    other += 1
                    self.assertEqual(plain[2][:broken], way[:broken], (source, setting))
                    self.assertEqual(plain[2][broken][0], way[broken][0], (source, setting))
                    self.assertNotEqual(plain[2][broken], way[broken], (source, setting))
        self.assertGreater(min(same, other), 1000, (same, other))


class ByOneKnob(unittest.TestCase):
    def made_with_knobs(self, wild, tame):
        """Texts, each with two knobs that its way hangs on, or with any one."""
        for chance, maker, source in texts(wild, tame):
            matter = sorted({knob for _, (_, parts) in traced(source, steps=STEPS)[4] for knob, _ in parts})
            knobs = chance.sample(matter, min(2, len(matter))) or list(range(len(maker.knobs)))[:1]
            for knob in knobs:
                yield chance, maker, source, knob

    def run_at(self, maker, source, knob, number):
        setting = list(maker.knobs)
        setting[knob] = number
        return run(source, setting=setting, steps=STEPS)

    def test_stretches(self):
        bound = 0
        for chance, maker, source, knob in self.made_with_knobs(200, 200):
            number = chance.choice((maker.knobs[knob], chance.randint(-9, 9), chance.randint(-GREAT, GREAT)))
            least, greatest = stretch(source, knob, number, steps=STEPS)
            way = self.run_at(maker, source, knob, number)[2]
            for end, step in ((least, -1), (greatest, 1)):
                if end is None:
                    far = number + step * chance.choice((1, 2, 50, 10 ** 20, 10 ** 60))
                    self.assertEqual(self.run_at(maker, source, knob, far)[2], way)
                else:
                    bound += 1
                    self.assertLessEqual(step * number, step * end)
                    for inside in (end, chance.randint(min(number, end), max(number, end))):
                        self.assertEqual(self.run_at(maker, source, knob, inside)[2], way)
                        self.assertEqual(stretch(source, knob, inside, steps=STEPS), (least, greatest))
                    self.assertNotEqual(self.run_at(maker, source, knob, end + step)[2], way)
        self.assertGreater(bound, 500, bound)

    def test_borders(self):
        found = 0
        for chance, maker, source, knob in self.made_with_knobs(200, 200):
            least, greatest = stretch(source, knob, chance.randint(-5, 5), steps=STEPS)
            for number in (greatest, greatest and greatest - 1, least, least and least - 1):
                if number is None:
                    continue
                way = self.run_at(maker, source, knob, number)[2]
                other = self.run_at(maker, source, knob, number + 1)[2]
                due = None
                if way != other:
                    found += 1
                    turn = next(k for k in range(len(way)) if way[k] != other[k])
                    due = (turn, way[turn][1], other[turn][1])
                self.assertEqual(border(source, knob, number, steps=STEPS), due, (source, knob, number))
        self.assertGreater(found, 800, found)

    def test_partings(self):
        many = 0
        for chance, maker, source, knob in self.made_with_knobs(150, 120):
            middle = chance.choice((0, 0, maker.knobs[knob], chance.randint(-GREAT, GREAT)))
            low, high = middle - chance.randint(0, 8), middle + chance.randint(0, 8)
            rows = parting(source, knob, low, high, steps=STEPS)
            ways = []
            numbers = []
            for least, greatest, told, end in rows:
                for number in range(least, greatest + 1):
                    plain = self.run_at(maker, source, knob, number)
                    numbers.append(number)
                    ways.append(plain[2])
                    self.assertEqual(plain[2], ways[-1 - (number - least)])
                    self.assertEqual(plain[0], tuple(c + m * number for c, m in told))
                    due = ("back", end[1][0] + end[1][1] * number) if end[0] == "back" else end
                    self.assertEqual(plain[1], due)
            self.assertEqual(numbers, list(range(low, high + 1)))
            starts = [k for k in range(len(ways)) if not k or ways[k] != ways[k - 1]]
            self.assertEqual([numbers[k] for k in starts], [row[0] for row in rows])
            many += len(rows)
            self.assertIsNone(wrong_row(source, knob, low, high, rows, steps=STEPS))
            at = chance.randrange(len(rows))
            self.assertEqual(wrong_row(source, knob, low, high, rows[:at], steps=STEPS), at)
            self.assertEqual(wrong_row(source, knob, low, high, rows[:at] + rows[at + 1:], steps=STEPS), at)
            least, greatest, told, end = rows[at]
            for row in ((least, greatest, told + ((0, 0),), end), (least, greatest + 1, told, end), list(rows[at])):
                self.assertEqual(wrong_row(source, knob, low, high, rows[:at] + [row] + rows[at + 1:], steps=STEPS), at)
            self.assertEqual(wrong_row(source, knob, low, high, rows + [rows[at]], steps=STEPS), len(rows))
        self.assertGreater(many, 1000, many)

    def test_pairs_are_forms_by_the_knob_alone(self):
        for chance, maker, source, knob in self.made_with_knobs(150, 150):
            number = chance.choice((maker.knobs[knob], chance.randint(-9, 9)))
            setting = list(maker.knobs)
            setting[knob] = number
            told, end, way, many, conditions = traced(source, setting=setting, steps=STEPS)
            due = tuple(along(form, knob, setting) for form in told)
            due_end = ("back", along(end[1], knob, setting)) if end[0] == "back" else end
            self.assertEqual(parting(source, knob, number, number, steps=STEPS), [(number, number, due, due_end)])


if __name__ == "__main__":
    unittest.main()
