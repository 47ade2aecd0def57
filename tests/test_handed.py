"""What is handed in stays as it was, and what is told is the asker's own."""

import copy
import unittest

from tugline.errors import NoKnob
from tugline.plain import run
from tugline.sources import knobs, line_of, read, set_to

TEXT = "x = [ 1 , 2 ]\nif x [ 0 ] < 3\n  tell x [ !1 ]\nback 4"


class Handed(unittest.TestCase):
    def test_lists_stay(self):
        numbers = [6, 5, 0, 7, 1]
        for call in (
            lambda: set_to(TEXT, numbers),
            lambda: run(TEXT, setting=numbers),
            lambda: run(TEXT, setting=numbers, steps=1),
        ):
            call()
            self.assertEqual(numbers, [6, 5, 0, 7, 1])

    def test_refused_lists_stay(self):
        numbers = [0, 5]
        for call in (lambda: set_to(TEXT, numbers), lambda: run(TEXT, setting=numbers)):
            with self.assertRaises(NoKnob):
                call()
            self.assertEqual(numbers, [0, 5])
        thing = [1, (2, [3])]
        kept = copy.deepcopy(thing)
        with self.assertRaises(NoKnob):
            line_of(TEXT, thing)
        self.assertEqual(thing, kept)

    def test_what_is_done_behind_a_call_changes_nothing(self):
        numbers = [6, 5, 0, 7, 1]
        told = run(TEXT, setting=numbers)
        source = set_to(TEXT, numbers)
        numbers[0] = 99
        del numbers[1:]
        self.assertEqual(told, ((5,), ("back", 1), ((1, 0), (1, "yes")), 4))
        self.assertEqual(knobs(source), [6, 5, 0, 7, 1])

    def test_each_list_told_is_a_new_one(self):
        told = [knobs(TEXT) for _ in range(3)]
        told[0].clear()
        told[1].append(None)
        self.assertEqual(told[2], [1, 2, 0, 3, 4])
        self.assertEqual(knobs(TEXT), [1, 2, 0, 3, 4])

    def test_the_same_each_time(self):
        self.assertEqual([run(TEXT) for _ in range(3)], [run(TEXT)] * 3)
        self.assertIsNone(read(TEXT))


if __name__ == "__main__":
    unittest.main()
