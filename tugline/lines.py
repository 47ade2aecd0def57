"""One line of a text, read by its words."""

from tugline.errors import NoText
from tugline.sums import SumReader, Words
from tugline.words import is_name

MOST_PARAMS = 4


class Line:
    """A line: how deep it stands, its kind, its sums.

    The kind is the line's first word; of NAME = E it is "set", which, being
    a name itself, is no other line's first word.
    """

    def __init__(self, depth, kind):
        self.depth = depth
        self.kind = kind
        self.name = ""
        self.params = []
        self.code = []
        self.knobs = []
        self.after = None
        self.other = None


def read_line(row, at, defs, knobs_ahead):
    """The line that a row of the text is; at is its number, defs are those it may call."""
    bare = row.lstrip(" ")
    blanks = len(row) - len(bare)
    if blanks & 1:
        raise NoText(at)
    words = Words(bare.split(" "), at)
    sums = SumReader(words, defs, knobs_ahead)
    line = Line(blanks // 2, "set" if is_name(words.ahead()) else words.take())
    read_words(line, words, sums)
    words.need_end()
    line.code = sums.code
    line.knobs = sums.knobs
    return line


def read_words(line, words, sums):
    """Read what the kind of the line asks for."""
    match line.kind:
        case "set":
            line.name = words.take_name()
            words.need("=")
            sums.read_outer()
        case "tell" | "back":
            sums.read_outer()
        case "if" | "while":
            sums.read_test()
        case "each":
            line.name = words.take_name()
            words.need("in")
            sums.read_outer()
        case "def":
            line.name = words.take_name()
            line.params = read_params(words)
        case "else":
            pass
        case _:
            raise NoText(words.line)


def read_params(words):
    """The params of a def: what is left of its line."""
    params = []
    while words.ahead() != "":
        name = words.take_name()
        if name in params or len(params) == MOST_PARAMS:
            raise NoText(words.line)
        params.append(name)
    return params
