"""Sums and tests, read from the words of a line into operations.

An operation is a pair (what, detail); it stands behind all its operands.
So a run needs a stack of values, and none of Python's own for calls.
"""

from tugline.errors import NoText
from tugline.words import is_fixed, is_name, is_number

MOST_WORDS = 100
MOST_DEEP = 6
MOST_ITEMS = 8
SUM_SIGNS = ("+", "-")
TERM_SIGNS = ("*", "//", "rest")
TEST_SIGNS = ("<", "<=", "==")


class Words:
    """The words of one line, taken from the left."""

    def __init__(self, row, line):
        self.row = row
        self.line = line
        self.spot = 0

    def ahead(self):
        """The next word; "" at the end, which is the same as no word of a text."""
        return self.row[self.spot] if self.spot < len(self.row) else ""

    def take(self):
        """The next word, which is then behind."""
        word = self.ahead()
        self.spot = self.spot + 1
        return word

    def take_name(self):
        """The next word, which must be a name."""
        word = self.take()
        if not is_name(word):
            raise NoText(self.line)
        return word

    def take_if(self, word):
        """Take the next word if it is this one, and tell whether it was."""
        found = self.ahead() == word
        if found:
            self.spot = self.spot + 1
        return found

    def need(self, word):
        """Take the next word, which must be this one."""
        if self.take() != word:
            raise NoText(self.line)

    def need_end(self):
        """Refuse the line if a word is left over."""
        if self.spot != len(self.row):
            raise NoText(self.line)


class SumReader:
    """Reads the sums of one line into one list of operations."""

    def __init__(self, words, defs, knobs_ahead):
        self.words = words
        self.defs = defs
        self.knobs_ahead = knobs_ahead
        self.knobs = []
        self.code = []

    def read_test(self):
        """Read two sums with the sign of a test between."""
        self.read_outer()
        sign = self.words.take()
        if sign not in TEST_SIGNS:
            raise NoText(self.words.line)
        self.read_outer()
        self.code.append((sign, None))

    def read_outer(self):
        """Read a sum that stands in no other one."""
        start = self.words.spot
        self.read_sum(0)
        if self.words.spot - start > MOST_WORDS:
            raise NoText(self.words.line)

    def read_sum(self, depth):
        """Read terms with + or - between."""
        # Ahead of the parts, so that no text makes the reading recurse further.
        if depth > MOST_DEEP:
            raise NoText(self.words.line)
        self.read_term(depth)
        while self.words.ahead() in SUM_SIGNS:
            sign = self.words.take()
            self.read_term(depth)
            self.code.append((sign, None))

    def read_term(self, depth):
        """Read parts with *, // or rest between."""
        self.read_part(depth)
        while self.words.ahead() in TERM_SIGNS:
            sign = self.words.take()
            self.read_part(depth)
            self.code.append((sign, None))

    def read_part(self, depth):
        """Read one part of a term in a sum of this depth."""
        word = self.words.take()
        if is_number(word):
            self.code.append(("knob", self.knobs_ahead + len(self.knobs)))
            self.knobs.append(int(word))
        elif is_fixed(word):
            self.code.append(("fixed", int(word[1:])))
        elif word == "(":
            self.read_sum(depth + 1)
            self.words.need(")")
        elif word == "[":
            self.read_list(depth)
        elif word == "len":
            self.code.append(("name", self.words.take_name()))
            self.code.append(("len", None))
        elif is_name(word):
            self.read_named(word, depth)
        else:
            raise NoText(self.words.line)

    def read_list(self, depth):
        """Read what follows the [ of a list."""
        many = self.read_row("]", depth)
        if many > MOST_ITEMS:
            raise NoText(self.words.line)
        self.code.append(("list", many))

    def read_named(self, name, depth):
        """Read what follows a name: a call, a cell, or nothing of it."""
        if self.words.take_if("("):
            if name not in self.defs:
                raise NoText(self.words.line)
            many = self.read_row(")", depth)
            self.code.append(("call", (name, many)))
            return
        self.code.append(("name", name))
        if self.words.take_if("["):
            self.read_sum(depth + 1)
            self.words.need("]")
            self.code.append(("cell", None))

    def read_row(self, close, depth):
        """Read sums with commas between, up to the closing sign; tell how many."""
        if self.words.take_if(close):
            return 0
        self.read_sum(depth + 1)
        many = 1
        while self.words.take_if(","):
            self.read_sum(depth + 1)
            many += 1
        self.words.need(close)
        return many
