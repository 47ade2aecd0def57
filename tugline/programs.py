"""A text as a whole, read into a program that can be run."""

from tugline.errors import NoKnob, NoText
from tugline.layout import Nest, link
from tugline.lines import read_line

MOST_LINES = 60
MOST_KNOBS = 30


class Program:
    """The lines of a text, its knobs and its defs."""

    def __init__(self):
        self.lines = []
        self.numbers = []
        self.knob_lines = []
        self.defs = {}
        self.first = None

    def put(self, line):
        """Add the next line."""
        at = len(self.lines)
        self.lines.append(line)
        self.numbers.extend(line.knobs)
        self.knob_lines.extend([at for _ in line.knobs])
        if self.first is None and line.depth == 0 and line.kind != "def":
            self.first = at

    def put_def(self, name):
        """Let the lines from the next one on call the def of this name."""
        at = len(self.lines)
        if name in self.defs:
            raise NoText(at)
        self.defs[name] = at


def parsed(text):
    """The program that a text is; refused with NoText."""
    if not isinstance(text, str):
        raise NoText(0)
    program = Program()
    nest = Nest()
    rows = text.split("\n")
    for at, row in enumerate(rows):
        if at == MOST_LINES:
            raise NoText(at)
        line = read_line(row, at, program.defs, len(program.numbers))
        nest.put(line, at)
        if line.kind == "def":
            program.put_def(line.name)
        program.put(line)
    if not nest.may_end():
        raise NoText(len(rows))
    check_counts(program)
    link(program.lines)
    return program


def check_counts(program):
    """Refuse the first line of a call of too many or too few, or of a knob too many."""
    for at, line in enumerate(program.lines):
        for what, detail in line.code:
            if what == "knob" and detail >= MOST_KNOBS:
                raise NoText(at)
            if what == "call" and not is_filled(program, detail):
                raise NoText(at)


def is_filled(program, call):
    """Whether a call, (name, how many), hands its def as many as it has params."""
    name, many = call
    return len(program.lines[program.defs[name]].params) == many


def setting_for(program, numbers):
    """A list of the numbers to which the knobs are set; refused with NoKnob."""
    many = len(program.numbers)
    if len(numbers) != many:
        raise NoKnob(many)
    return list(numbers)


def setting_of_run(program, setting):
    """A list of the numbers with which a run goes; of None those written."""
    return setting_for(program, program.numbers if setting is None else setting)


def all_knobs(program):
    """The list of the program's knobs."""
    return list(range(len(program.numbers)))


def need_knob(program, knob):
    """Refuse what is no knob of the program."""
    if not is_whole(knob) or not 0 <= knob < len(program.numbers):
        raise NoKnob(knob)


def is_whole(thing):
    """Whether something is an int that is no truth."""
    return isinstance(thing, int) and not isinstance(thing, bool)
