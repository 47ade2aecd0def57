"""Many texts made at random, from fixed seeds, run here and by the second way of running."""

import random
import unittest

from tests.reference import Maker, Runner
from tugline.errors import NoText
from tugline.plain import run
from tugline.sources import knobs, line_of, read, set_to

SEEDS = 1500


def made(seed, kind=Maker):
    chance = random.Random(seed)
    while True:
        maker = kind(chance)
        source = maker.text()
        fits = all(row.count(" ") < 90 for row in maker.rows)
        if len(maker.rows) <= 60 and len(maker.knobs) <= 30 and fits:
            return chance, maker, source


class Chance(unittest.TestCase):
    def test_runs(self):
        ends = {}
        for seed in range(SEEDS):
            chance, maker, source = made(seed)
            settings = [maker.knobs] + [[maker.number() for _ in maker.knobs] for _ in range(2)]
            for setting in settings:
                steps = chance.choice((300, 300, 20, 5))
                found = run(source, setting=setting, steps=steps)
                self.assertEqual(found, Runner(maker, setting, steps).result(), (seed, source, setting))
                word = found[1][0] if found[1][0] == "back" else found[1][1]
                ends[word] = ends.get(word, 0) + 1
        # Each way to end is met, or the texts are too tame to say anything.
        self.assertEqual(len(ends), 10, ends)

    def test_knobs(self):
        for seed in range(0, SEEDS, 5):
            chance, maker, source = made(seed)
            self.assertEqual(knobs(source), maker.knobs)
            self.assertEqual([line_of(source, k) for k in range(len(maker.knobs))], maker.knob_lines)
            setting = [maker.number() for _ in maker.knobs]
            told = set_to(source, setting)
            self.assertEqual(knobs(told), setting)
            self.assertEqual(set_to(told, maker.knobs), source)
            self.assertEqual(run(told), run(source, setting=setting))

    def test_a_line_spoiled(self):
        for seed in range(0, SEEDS, 5):
            chance, maker, source = made(seed)
            rows = list(maker.rows)
            at = chance.randrange(len(rows))
            row = rows[at].split(" ")
            spoiled = chance.choice((" ".join(row + ["+"]), " " + rows[at], "  " * 7 + rows[at].lstrip(" "), "", rows[at] + " "))
            for behind in (rows[at + 1:], [], ["no line", *rows[at + 1:]]):
                with self.assertRaises(NoText) as caught:
                    read("\n".join(rows[:at] + [spoiled] + behind))
                self.assertEqual(caught.exception.line, at, (seed, spoiled))


if __name__ == "__main__":
    unittest.main()
