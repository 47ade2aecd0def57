"""knobs, line_of and set_to."""

import unittest

from tugline.errors import NoKnob
from tugline.sources import knobs, line_of, read, set_to

TEXT = """def f a
  if a < 10
    back [ 2 , a , -30 ]
  back [ !4 , !-4 ]
x = f ( 5 - -5 )
while x [ 0 ] <= 0
  x = [ 7 ] + [ 7 ]
back !0"""
NUMBERS = [10, 2, -30, 5, -5, 0, 0, 7, 7]
LINES = [1, 2, 2, 4, 4, 5, 5, 6, 6]
NO_KNOBS = "x = !5\nback x"
GREAT = 10 ** 60 - 1


class Knobs(unittest.TestCase):
    def test_in_the_order_of_the_text(self):
        self.assertEqual(knobs(TEXT), NUMBERS)
        self.assertEqual(knobs(NO_KNOBS), [])
        self.assertEqual(knobs("back %d - %d" % (GREAT, -GREAT)), [GREAT, -GREAT])

    def test_a_new_list_each_time(self):
        first = knobs(TEXT)
        self.assertIs(type(first), list)
        first.append(1)
        first[0] = 99
        self.assertEqual(knobs(TEXT), NUMBERS)
        self.assertIsNot(knobs(TEXT), knobs(TEXT))

    def test_by_the_names_shown(self):
        self.assertIsNone(read(text=TEXT))
        self.assertEqual(knobs(text=TEXT), NUMBERS)
        self.assertEqual(line_of(knob=4, text=TEXT), 4)
        self.assertEqual(set_to(numbers=[6], text="back 5"), "back 6")


class LineOf(unittest.TestCase):
    def test_each_knob(self):
        self.assertEqual([line_of(TEXT, k) for k in range(len(NUMBERS))], LINES)

    def test_no_knob(self):
        many = len(NUMBERS)
        for thing in (-1, -many, many, many + 1, GREAT, -GREAT, True, False, None, "", "0", (), (0,), [], [0], [[1]]):
            with self.assertRaises(NoKnob, msg=repr(thing)) as caught:
                line_of(TEXT, thing)
            self.assertIs(caught.exception.number, thing)

    def test_of_a_text_without_knobs(self):
        for thing in (0, -1, 1, None):
            with self.assertRaises(NoKnob) as caught:
                line_of(NO_KNOBS, thing)
            self.assertIs(caught.exception.number, thing)


class SetTo(unittest.TestCase):
    def test_as_it_was_but_for_the_numbers(self):
        self.assertEqual(set_to(TEXT, NUMBERS), TEXT)
        self.assertEqual(set_to(TEXT, [-1, 3, 0, 5, 6, 100, -7, 7, 8]), """def f a
  if a < -1
    back [ 3 , a , 0 ]
  back [ !4 , !-4 ]
x = f ( 5 - 6 )
while x [ 100 ] <= -7
  x = [ 7 ] + [ 8 ]
back !0""")

    def test_near_numbers(self):
        self.assertEqual(set_to("back 1 + 1 + 11 + 1", [11, 111, 1, 0]), "back 11 + 111 + 1 + 0")
        self.assertEqual(set_to("tell 1\nback 1", [2, 3]), "tell 2\nback 3")
        self.assertEqual(set_to("back 5 - 5 + !5", [-6, -7]), "back -6 - -7 + !5")

    def test_read_again(self):
        setting = [GREAT, -GREAT, 0, 1, -1, 10, -10, 5, 6]
        told = set_to(TEXT, setting)
        self.assertEqual(knobs(told), setting)
        self.assertEqual(set_to(told, NUMBERS), TEXT)
        self.assertEqual([line_of(told, k) for k in range(len(setting))], LINES)

    def test_a_text_without_knobs(self):
        self.assertEqual(set_to(NO_KNOBS, []), NO_KNOBS)

    def test_too_few_and_too_many(self):
        for source, many in ((TEXT, len(NUMBERS)), (NO_KNOBS, 0), ("back 1", 1)):
            for handed in (many - 1, many + 1, many + 5, 0):
                if handed >= 0 and handed != many:
                    with self.assertRaises(NoKnob) as caught:
                        set_to(source, [1] * handed)
                    self.assertEqual(caught.exception.number, many)

    def test_what_is_handed_in_stays(self):
        numbers = list(range(len(NUMBERS)))
        set_to(TEXT, numbers)
        self.assertEqual(numbers, list(range(len(NUMBERS))))


if __name__ == "__main__":
    unittest.main()
