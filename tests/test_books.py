"""Books: histories, refused calls, whence, and books alike."""

import random
import unittest

from tugline.books import Book
from tugline.errors import NoKnob, NoPlace, NoPull, NoText, Nothing, TooMany, TugError
from tugline.plain import run
from tugline.sources import knobs, set_to

GREAT = 10 ** 60 - 1
NO_TEXTS = ((None, 0), (True, 0), (7, 0), (["back 1"], 0), ("", 0), ("tell 1", 1), ("x = 1\nback", 1))
THINGS = (True, False, None, "0", "", (0,), [0], [[], ()], (), GREAT, -GREAT, -1, -2)


def text(*rows):
    return "\n".join(rows)


SOURCE = text("x = 5", "y = 7", "tell x + y * !2", "tell !4", "tell y - x", "back 0")


def at(*numbers):
    return set_to(SOURCE, list(numbers))


class BookCase(unittest.TestCase):
    def is_refused(self, book, kind, field, call):
        """That the call is refused so, and changes nothing."""
        ahead = self.all_of(book)
        with self.assertRaises(kind) as caught:
            call()
        self.assertIs(type(caught.exception), kind)
        self.assertIsInstance(caught.exception, TugError)
        (told,) = vars(caught.exception).values()
        self.assertEqual((told, type(told)), (field, type(field)))
        self.assertEqual(self.all_of(book), ahead)

    def all_of(self, book):
        """The text, and all to which back and on go."""
        now, changes = book.text(), book.changes()
        backs = [book.back() for _ in range(changes)]
        with self.assertRaises(Nothing):
            book.back()
        for _ in backs:
            book.on()
        self.assertEqual((book.text(), book.changes()), (now, changes))
        ons = []
        while True:
            try:
                ons.append(book.on())
            except Nothing:
                break
        for _ in ons:
            book.back()
        self.assertEqual((book.text(), book.changes()), (now, changes))
        return now, changes, backs, ons


class Histories(BookCase):
    def test_a_new_book(self):
        book = Book(SOURCE)
        self.assertEqual(self.all_of(book), (SOURCE, 0, [], []))

    def test_sets(self):
        book = Book(SOURCE)
        self.assertEqual(book.set_knob(0, 9), at(9, 7, 0))
        self.assertEqual(book.text(), at(9, 7, 0))
        self.assertEqual(book.set_knob(2, -GREAT), at(9, 7, -GREAT))
        self.assertEqual(self.all_of(book), (at(9, 7, -GREAT), 2, [at(9, 7, 0), SOURCE], []))

    def test_pulls(self):
        book = Book(SOURCE)
        self.assertEqual(book.pull(0, 25, 0, -20, 20), at(11, 7, 0))
        self.assertEqual(book.pull(0, 29, 1, -20, 20), at(11, 9, 0))
        self.assertEqual(run(book.text())[0], (29, 4, -2))
        self.assertEqual(self.all_of(book), (at(11, 9, 0), 2, [at(11, 7, 0), SOURCE], []))

    def test_back_and_on(self):
        book = Book(SOURCE)
        book.set_knob(0, 1)
        book.set_knob(0, 2)
        book.set_knob(0, 3)
        self.assertEqual([book.back(), book.back()], [at(2, 7, 0), at(1, 7, 0)])
        self.assertEqual((book.text(), book.changes()), (at(1, 7, 0), 1))
        self.assertEqual(book.on(), at(2, 7, 0))
        self.assertEqual((book.text(), book.changes()), (at(2, 7, 0), 2))
        self.assertEqual([book.back(), book.back()], [at(1, 7, 0), SOURCE])
        self.assertEqual([book.on(), book.on(), book.on()], [at(1, 7, 0), at(2, 7, 0), at(3, 7, 0)])
        self.is_refused(book, Nothing, "on", book.on)

    def test_a_change_behind_a_back(self):
        for change in (lambda book: book.set_knob(0, 9), lambda book: book.pull(0, 23, 0, 0, 9)):
            book = Book(SOURCE)
            book.set_knob(0, 1)
            book.set_knob(0, 2)
            book.back()
            self.assertEqual(change(book), at(9, 7, 0))
            self.is_refused(book, Nothing, "on", book.on)
            self.assertEqual(self.all_of(book), (at(9, 7, 0), 2, [at(1, 7, 0), SOURCE], []))

    def test_a_text_set_to_what_it_was(self):
        book = Book(SOURCE)
        self.assertEqual(book.set_knob(0, 5), SOURCE)
        self.assertEqual(book.changes(), 1)
        self.assertEqual(book.pull(0, 19, 0, -9, 9), SOURCE)
        self.assertEqual(book.changes(), 2)
        self.assertEqual(book.back(), SOURCE)
        self.assertEqual(book.set_knob(2, 0), SOURCE)
        self.is_refused(book, Nothing, "on", book.on)
        self.assertEqual(self.all_of(book), (SOURCE, 2, [SOURCE, SOURCE], []))

    def test_nothing_to_go_to(self):
        book = Book(SOURCE)
        self.is_refused(book, Nothing, "back", book.back)
        self.is_refused(book, Nothing, "on", book.on)
        book.set_knob(0, 1)
        book.back()
        self.is_refused(book, Nothing, "back", book.back)
        book.on()
        self.is_refused(book, Nothing, "on", book.on)

    def test_long_histories(self):
        chance = random.Random(5)
        for _ in range(30):
            book, past, future = Book(SOURCE), [SOURCE], []
            for _ in range(60):
                pick = chance.randrange(4)
                if pick == 0 and len(past) > 1:
                    future.append(past.pop())
                    self.assertEqual(book.back(), past[-1])
                elif pick == 1 and future:
                    past.append(future.pop())
                    self.assertEqual(book.on(), past[-1])
                elif pick == 2:
                    numbers = knobs(past[-1])
                    numbers[1] = chance.randint(-2, 2)
                    past.append(set_to(SOURCE, numbers))
                    future.clear()
                    self.assertEqual(book.set_knob(1, numbers[1]), past[-1])
                elif pick == 3:
                    x, y, end = knobs(past[-1])
                    due = chance.randint(-4, 4)
                    past.append(at(due - y * 2, y, end))
                    future.clear()
                    self.assertEqual(book.pull(0, due, 0, -20, 20), past[-1])
                self.assertEqual((book.text(), book.changes()), (past[-1], len(past) - 1))

    def test_books_side_by_side(self):
        one, other = Book(SOURCE), Book(SOURCE)
        one.set_knob(0, 1)
        self.assertEqual(self.all_of(other), (SOURCE, 0, [], []))
        other.set_knob(1, 3)
        one.back()
        self.assertEqual(other.text(), at(5, 3, 0))
        self.is_refused(other, Nothing, "on", other.on)


class Refused(BookCase):
    def books(self):
        """A book of each kind of history."""
        fresh, middle, end = Book(SOURCE), Book(SOURCE), Book(SOURCE)
        for book in (middle, end):
            for number in (1, 2, 3):
                book.set_knob(2, number)
        middle.back()
        middle.back()
        return fresh, middle, end

    def test_no_text(self):
        for thing, line in NO_TEXTS:
            with self.assertRaises(NoText) as caught:
                Book(thing)
            self.assertEqual(caught.exception.line, line)

    def test_no_knob(self):
        for book in self.books():
            for thing in (*THINGS, 3, 99):
                self.is_refused(book, NoKnob, thing, lambda: book.set_knob(thing, 1))
                self.is_refused(book, NoKnob, thing, lambda: book.pull(0, 19, thing, -9, 9))
                # Ahead of the pull that finds none.
                self.is_refused(book, NoKnob, thing, lambda: book.pull(9, 19, thing, -9, 9))

    def test_no_pull(self):
        for book in self.books():
            for due in (1000, -1000, GREAT):
                self.is_refused(book, NoPull, due, lambda: book.pull(0, due, 0, -9, 9))
            self.is_refused(book, NoPull, 19, lambda: book.pull(3, 19, 0, -9, 9))
            self.is_refused(book, NoPull, 19, lambda: book.pull(-1, 19, 0, -9, 9))
            self.is_refused(book, NoPull, 19, lambda: book.pull(0, 19, 0, -9, 9, pinned=[(1, 5)]))
            self.is_refused(book, NoPull, 4, lambda: book.pull(1, 4, 0, -9, 9, pinned=[(-1, 4)]))

    def test_too_many(self):
        book = Book(text("x = 5", "tell x rest !7", "back 0"))
        book.set_knob(0, 6)
        book.back()
        self.is_refused(book, TooMany, 100, lambda: book.pull(0, 5, 0, 0, 700))
        self.is_refused(book, TooMany, 100, lambda: book.pull(0, 9, 0, 0, 700))
        self.assertEqual(knobs(book.pull(0, 4, 0, 0, 699)), [4, 0])

    def test_three_hundred_lines(self):
        book = Book(text("while x < 3", "  x = x + !1", "  tell x", "back x"))
        self.assertEqual(knobs(book.pull(98, 99, 0, 50, 120)), [99])
        self.assertEqual(knobs(book.pull(99, 100, 0, 50, 140)), [100])
        self.is_refused(book, NoPull, 101, lambda: book.pull(100, 101, 0, 50, 140))
        book.set_knob(0, 500)
        self.assertEqual(book.whence(99), [])
        self.is_refused(book, NoPlace, 100, lambda: book.whence(100))


class Pinned(BookCase):
    def test_pinned(self):
        book = Book(SOURCE)
        self.assertEqual(book.pull(0, 21, 0, -9, 9, pinned=[(1, 4)]), at(7, 7, 0))
        self.assertEqual(book.pull(0, 21, 0, -9, 9, pinned=((1, 4), (2, 0))), at(7, 7, 0))
        pinned = [(2, 1)]
        self.is_refused(book, NoPull, 21, lambda: book.pull(0, 21, 0, -9, 9, pinned=pinned))
        self.assertEqual(pinned, [(2, 1)])

    def test_by_the_names_shown(self):
        book = Book(text=SOURCE)
        self.assertEqual(book.set_knob(number=1, knob=0), at(1, 7, 0))
        self.assertEqual(book.pull(high=9, low=-9, knob=0, due=17, place=0, pinned=()), at(3, 7, 0))
        self.assertEqual(book.whence(place=1), [])
        with self.assertRaises(TypeError):
            book.pull(0, 17, 0, -9, 9, ())


class Whence(BookCase):
    def test_of_told_places(self):
        book = Book(SOURCE)
        self.assertEqual(book.whence(0), [(0, 0, 1), (1, 1, 2)])
        self.assertEqual(book.whence(1), [])
        self.assertEqual(book.whence(2), [(0, 0, -1), (1, 1, 1)])

    def test_lines_of_knobs(self):
        book = Book(text("def f a", "  back a * !3 - 8", "x = 1 + 2", "tell f ( x ) - x", "back 0"))
        self.assertEqual(knobs(book.text()), [8, 1, 2, 0])
        self.assertEqual(book.whence(0), [(0, 1, -1), (1, 2, 2), (2, 2, 2)])

    def test_what_goes_in_and_out(self):
        book = Book(text("x = 5", "tell x - x", "tell x rest !3", "tell x // !3", "back 0"))
        self.assertEqual([book.whence(0), book.whence(1), book.whence(2)], [[], [(0, 0, 1)], []])

    def test_of_the_text_as_it_is(self):
        book = Book(text("x = 5", "if x < !6", "  tell x * !2", "else", "  tell x * !-3", "back 0"))
        self.assertEqual(book.whence(0), [(0, 0, 2)])
        book.set_knob(0, 6)
        self.assertEqual(book.whence(0), [(0, 0, -3)])
        book.back()
        self.assertEqual(book.whence(0), [(0, 0, 2)])

    def test_ahead_of_a_fault(self):
        book = Book(text("tell 3", "x = 1 * 2", "tell 4", "back 0"))
        self.assertEqual(book.whence(0), [(0, 0, 1)])
        self.is_refused(book, NoPlace, 1, lambda: book.whence(1))

    def test_of_other_places_and_other_things(self):
        book = Book(SOURCE)
        book.set_knob(0, 1)
        book.set_knob(0, 2)
        book.back()
        for thing in (*THINGS, 3, 4):
            self.is_refused(book, NoPlace, thing, lambda: book.whence(thing))
        thing = [1, (2, [3])]
        with self.assertRaises(NoPlace) as caught:
            book.whence(thing)
        self.assertIs(caught.exception.place, thing)
        self.assertEqual(thing, [1, (2, [3])])

    def test_what_is_told_is_new(self):
        book = Book(SOURCE)
        book.whence(0).clear()
        self.assertEqual(book.whence(0), [(0, 0, 1), (1, 1, 2)])
        self.assertEqual([type(part) for part in book.whence(0)], [tuple, tuple])


class Alike(unittest.TestCase):
    def test_alike(self):
        one, other = Book(SOURCE), Book(SOURCE)
        self.assertTrue(one == other)
        self.assertFalse(one != other)
        self.assertTrue(one == one)
        one.set_knob(0, 9)
        self.assertFalse(one == other)
        self.assertTrue(one != other)
        # However they came to it.
        other.set_knob(1, 3)
        other.set_knob(1, 7)
        other.set_knob(0, 9)
        self.assertTrue(one == other)
        one.back()
        self.assertFalse(one == other)
        self.assertTrue(one == Book(SOURCE))
        self.assertFalse(Book("back 1") == Book("back !1"))
        self.assertIs(one == Book(SOURCE), True)
        self.assertIs(one == other, False)

    def test_beside_things_that_are_no_book(self):
        book = Book("back 1")
        for thing in ("back 1", None, 1, True, ("back 1",), ["back 1"], object()):
            self.assertIs(book == thing, False)
            self.assertIs(thing == book, False)
            self.assertIs(book != thing, True)
        self.assertIn(book, [1, Book("back 1")])
        self.assertNotIn(book, [1, Book("back 2"), "back 1"])


if __name__ == "__main__":
    unittest.main()
