"""The desk: rows are told to it, and it answers texts."""

from tugline.answers import conditions_answer, forms_answer, knobs_answer, parting_answer
from tugline.answers import run_answer, stretch_answer, whence_answer
from tugline.books import Book
from tugline.errors import NoRow
from tugline.rows import read_row

NEW_BOOK = "text\n"


class Desk:
    """Takes rows, and answers them from the book that lies on it."""

    def __init__(self):
        self._book = None

    def say(self, row):
        """Answer a row; refused with NoText, NoRow, or as the book refuses."""
        if isinstance(row, str) and row.startswith(NEW_BOOK):
            self._book = Book(row[len(NEW_BOOK):])
            return "ok"
        word, numbers = read_row(row)
        if self._book is None:
            raise NoRow(row)
        if word in ("pull", "set", "back", "on"):
            change(self._book, word, numbers)
            return "ok"
        return answer(self._book, word, numbers)


def change(book, word, numbers):
    """Do what a row of this word asks to be done."""
    match word:
        case "pull":
            place, due, knob, low, high = numbers
            book.pull(place, due, knob, low, high)
        case "set":
            knob, number = numbers
            book.set_knob(knob, number)
        case "back":
            book.back()
        case _:
            book.on()


def answer(book, word, numbers):
    """Tell what a row of this word asks for."""
    text = book.text()
    match word:
        case "text":
            return text
        case "knobs":
            return knobs_answer(text)
        case "run":
            return run_answer(text)
        case "forms":
            return forms_answer(text)
        case "conditions":
            return conditions_answer(text)
        case "stretch":
            knob, number = numbers
            return stretch_answer(text, knob, number)
        case "parting":
            knob, low, high = numbers
            return parting_answer(text, knob, low, high)
        case _:
            return whence_answer(book.whence(numbers[0]))
