"""Books: a text that is set anew, and the ways back and on."""

from tugline.errors import NoPlace, NoPull, Nothing
from tugline.programs import is_whole, need_knob, parsed
from tugline.pulls import pull
from tugline.sources import read, set_to
from tugline.traced import traced


class Book:
    """A text, those that were ahead of it, and those that back left; refused with NoText."""

    def __init__(self, text):
        read(text)
        self._now = text
        self._ahead = []
        self._left = []

    def text(self):
        """The text."""
        return self._now

    def set_knob(self, knob, number):
        """Set a knob to a number, and tell the new text; refused with NoKnob."""
        program = parsed(self._now)
        need_knob(program, knob)
        setting = list(program.numbers)
        setting[knob] = number
        return self._change(set_to(self._now, setting))

    def pull(self, place, due, knob, low, high, *, pinned=()):
        """Set a knob to the number that a pull finds, and tell the new text.

        Refused with NoKnob, TooMany or NoPull.
        """
        number = pull(self._now, place, due, knob, low, high, pinned=pinned)
        if number is None:
            raise NoPull(due)
        return self.set_knob(knob, number)

    def back(self):
        """Go to the text ahead of the last change, and tell it; refused with Nothing."""
        if not self._ahead:
            raise Nothing("back")
        self._left.append(self._now)
        self._now = self._ahead.pop()
        return self._now

    def on(self):
        """Go to the text that the last back left, and tell it; refused with Nothing."""
        if not self._left:
            raise Nothing("on")
        self._ahead.append(self._now)
        self._now = self._left.pop()
        return self._now

    def changes(self):
        """How often back may go."""
        return len(self._ahead)

    def whence(self, place):
        """The list of (knob, line, times) of the number told at a place; refused with NoPlace."""
        told = traced(self._now)[0]
        if not is_whole(place) or not 0 <= place < len(told):
            raise NoPlace(place)
        lines = parsed(self._now).knob_lines
        return [(knob, lines[knob], many) for knob, many in told[place][1]]

    def _change(self, text):
        """Let the text be this one, and tell it."""
        self._ahead.append(self._now)
        self._left.clear()
        self._now = text
        return text

    def __eq__(self, other):
        """Whether both are books, and their texts are alike."""
        return isinstance(other, Book) and self._now == other._now
