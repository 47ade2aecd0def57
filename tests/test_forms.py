"""Forms: put together, their worth, and a form by one knob alone."""

import random
import unittest

from tugline.forms import added, along, form_of, plain_form, taken, times, worth

GREAT = 10 ** 60 - 1


def form_by(number, table):
    """The form with these times of knobs, as the document has it."""
    return number, tuple((knob, table[knob]) for knob in sorted(table) if table[knob])


def made(chance, most=30):
    """A number and a table of times by knobs, near ones and great ones."""
    knobs = chance.sample(range(30), chance.randint(0, most))
    return number(chance), {knob: number(chance) for knob in knobs}


def number(chance):
    return chance.choice((0, 1, -1, 2, -2, chance.randint(-GREAT, GREAT), GREAT, -GREAT))


class FormCase(unittest.TestCase):
    def well(self, form, due):
        """The form is this one, and of the kinds that a form has."""
        self.assertEqual(form, due)
        self.assertIs(type(form), tuple)
        self.assertIs(type(form[0]), int)
        self.assertIs(type(form[1]), tuple)
        for part in form[1]:
            self.assertIs(type(part), tuple)
            self.assertEqual([type(figure) for figure in part], [int, int])


class Simple(FormCase):
    def test_of_a_knob(self):
        for knob in (0, 1, 7, 29):
            self.well(form_of(knob), (0, ((knob, 1),)))

    def test_plain(self):
        for figure in (0, 1, -1, GREAT, -GREAT):
            self.well(plain_form(figure), (figure, ()))

    def test_by_the_names_shown(self):
        self.assertEqual(form_of(knob=2), (0, ((2, 1),)))
        self.assertEqual(plain_form(number=2), (2, ()))
        self.assertEqual(added(one=(1, ()), other=(2, ())), (3, ()))
        self.assertEqual(taken(one=(1, ()), other=(2, ())), (-1, ()))
        self.assertEqual(times(form=(3, ()), number=2), (6, ()))
        self.assertEqual(worth(form=(1, ((0, 2),)), setting=[5]), 11)
        self.assertEqual(along(form=(1, ((0, 2),)), knob=0, setting=[5]), (1, 2))


class Together(FormCase):
    def test_sums(self):
        self.well(added((1, ()), (2, ())), (3, ()))
        self.well(added((1, ((0, 2),)), (5, ())), (6, ((0, 2),)))
        self.well(added((5, ()), (1, ((0, 2),))), (6, ((0, 2),)))
        self.well(added((0, ((0, 1),)), (0, ((0, 1),))), (0, ((0, 2),)))
        self.well(added((0, ((1, 3), (4, 5))), (0, ((0, 7), (4, 1), (9, 2)))), (0, ((0, 7), (1, 3), (4, 6), (9, 2))))

    def test_rising_knobs_one_way_about_and_the_other(self):
        self.well(added(form_of(9), form_of(2)), (0, ((2, 1), (9, 1))))
        self.well(added(form_of(2), form_of(9)), (0, ((2, 1), (9, 1))))
        self.well(added(form_of(10), form_of(9)), (0, ((9, 1), (10, 1))))
        self.well(taken(form_of(9), form_of(2)), (0, ((2, -1), (9, 1))))
        self.well(taken(form_of(2), form_of(9)), (0, ((2, 1), (9, -1))))

    def test_times_that_cancel(self):
        self.well(added((1, ((3, 2),)), (1, ((3, -2),))), (2, ()))
        self.well(added((0, ((1, 1), (3, 2), (5, 1))), (0, ((3, -2),))), (0, ((1, 1), (5, 1))))
        self.well(taken((0, ((1, 1), (3, 2))), (0, ((1, 1),))), (0, ((3, 2),)))

    def test_a_form_taken_from_itself(self):
        for form in ((0, ()), (5, ()), (5, ((0, 1),)), (GREAT, tuple((k, GREAT) for k in range(30)))):
            self.well(taken(form, form), (0, ()))
            self.well(added(form, times(form, -1)), (0, ()))

    def test_differences(self):
        self.well(taken((1, ()), (2, ())), (-1, ()))
        self.well(taken((1, ((0, 2),)), (5, ())), (-4, ((0, 2),)))
        self.well(taken((5, ()), (1, ((0, 2),))), (4, ((0, -2),)))

    def test_times(self):
        self.well(times((3, ((0, 2), (7, -5))), 4), (12, ((0, 8), (7, -20))))
        self.well(times((3, ((0, 2), (7, -5))), 1), (3, ((0, 2), (7, -5))))
        self.well(times((3, ((0, 2), (7, -5))), -1), (-3, ((0, -2), (7, 5))))
        self.well(times((GREAT, ((29, GREAT),)), GREAT), (GREAT * GREAT, ((29, GREAT * GREAT),)))

    def test_times_nought(self):
        for form in ((0, ()), (5, ()), (5, ((0, 1),)), (GREAT, tuple((k, GREAT) for k in range(30)))):
            self.well(times(form, 0), (0, ()))

    def test_made_at_random(self):
        chance = random.Random(1)
        for _ in range(600):
            (a, one), (b, other) = made(chance), made(chance)
            if chance.random() < 0.3:
                other = {knob: -one[knob] for knob in one if chance.random() < 0.8}
            left, right = form_by(a, one), form_by(b, other)
            every = set(one) | set(other)
            self.well(added(left, right), form_by(a + b, {k: one.get(k, 0) + other.get(k, 0) for k in every}))
            self.well(taken(left, right), form_by(a - b, {k: one.get(k, 0) - other.get(k, 0) for k in every}))
            many = number(chance)
            self.well(times(left, many), form_by(a * many, {k: one[k] * many for k in one}))

    def test_what_is_handed_in_stays(self):
        one, other, setting = (1, ((0, 2), (1, 1))), (3, ((0, -2),)), [4, 5]
        for call in (lambda: added(one, other), lambda: taken(one, other), lambda: times(one, 0),
                     lambda: worth(one, setting), lambda: along(one, 1, setting)):
            call()
            self.assertEqual((one, other, setting), ((1, ((0, 2), (1, 1))), (3, ((0, -2),)), [4, 5]))


class Worth(FormCase):
    def test_worth(self):
        self.assertEqual(worth((7, ()), []), 7)
        self.assertEqual(worth((7, ()), [1, 2]), 7)
        self.assertEqual(worth((7, ((0, 2), (1, -3))), [10, 1]), 24)
        self.assertEqual(worth((-7, ((1, -3),)), [10, -1]), -4)
        self.assertEqual(worth((1, ((0, GREAT),)), [-GREAT]), 1 - GREAT * GREAT)

    def test_a_setting_longer_than_needed(self):
        self.assertEqual(worth((7, ((0, 2),)), [10, 99, 98]), 27)
        self.assertEqual(worth((7, ((1, 2),)), [99, 10, 98, 97]), 27)
        self.assertEqual(along((7, ((1, 2),)), 1, [99, 10, 98, 97]), (7, 2))

    def test_made_at_random(self):
        chance = random.Random(2)
        for _ in range(300):
            a, one = made(chance)
            setting = [number(chance) for _ in range(30 + chance.randrange(3))]
            self.assertEqual(worth(form_by(a, one), setting), a + sum(one[k] * setting[k] for k in one))


class Along(FormCase):
    def test_a_knob_that_the_form_has(self):
        form = (7, ((0, 2), (1, -3), (4, 5)))
        setting = [10, 100, 0, 0, 1000]
        self.assertEqual(along(form, 0, setting), (7 - 300 + 5000, 2))
        self.assertEqual(along(form, 1, setting), (7 + 20 + 5000, -3))
        self.assertEqual(along(form, 4, setting), (7 + 20 - 300, 5))
        self.assertIs(type(along(form, 4, setting)), tuple)

    def test_a_knob_that_it_has_not(self):
        form = (7, ((0, 2), (1, -3)))
        self.assertEqual(along(form, 2, [10, 100, 1]), (7 + 20 - 300, 0))
        self.assertEqual(along((7, ()), 0, [10]), (7, 0))
        self.assertEqual(along((0, ()), 5, [1] * 6), (0, 0))

    def test_what_the_knob_is_set_to_does_not_matter(self):
        form = (7, ((0, 2), (1, -3)))
        for figure in (0, -5, GREAT):
            self.assertEqual(along(form, 0, [figure, 100]), (-293, 2))

    def test_made_at_random(self):
        chance = random.Random(3)
        for _ in range(300):
            a, one = made(chance)
            setting = [number(chance) for _ in range(30)]
            knob = chance.randrange(30)
            others = sum(one[k] * setting[k] for k in one if k != knob)
            self.assertEqual(along(form_by(a, one), knob, setting), (a + others, one.get(knob, 0)))


if __name__ == "__main__":
    unittest.main()
