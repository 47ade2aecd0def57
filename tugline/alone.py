"""Runs of a text by one knob alone, all others as written."""

from tugline.errors import TooMany
from tugline.forms import along
from tugline.machine import run_by
from tugline.programs import need_knob, parsed
from tugline.spans import span_of


class Alone:
    """A text and the one of its knobs that is set; refused with NoText or NoKnob."""

    def __init__(self, text, knob, steps):
        self.program = parsed(text)
        need_knob(self.program, knob)
        self.knob = knob
        self.steps = steps
        self.written = self.program.numbers[knob]

    def run_at(self, number):
        """The run with the knob set to the number, ended; of forms only this knob has one."""
        setting = list(self.program.numbers)
        setting[self.knob] = number
        return run_by(self.program, [self.knob], setting, self.steps)

    def pair_of(self, machine, form):
        """A form of a run by the knob alone: (c, m), c and m times its number."""
        return along(form, self.knob, machine.setting)

    def stretch_of(self, machine):
        """The least and the greatest number for which all conditions of the run hold."""
        return span_of([self.pair_of(machine, form) for _, form in machine.conditions])

    def row_at(self, low, high):
        """The row of a parting that begins at low, in a range that ends at high."""
        machine = self.run_at(low)
        _, greatest = self.stretch_of(machine)
        last = high if greatest is None else min(greatest, high)
        told = tuple([self.pair_of(machine, form) for form in machine.told])
        end = machine.end
        if end[0] == "back":
            end = ("back", self.pair_of(machine, end[1]))
        return low, last, told, end

    def rows_of(self, low, high, most):
        """The list of rows into which the range is parted; refused with TooMany."""
        rows = []
        start = low
        while start <= high:
            if len(rows) == most:
                raise TooMany(most)
            row = self.row_at(start, high)
            rows.append(row)
            start = row[1] + 1
        return rows
