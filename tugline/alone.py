"""Runs of a text by one knob alone, all others as written."""

from tugline.forms import along, form_of, plain_form
from tugline.machine import Machine
from tugline.programs import need_knob, parsed


class Alone:
    """A text and the one of its knobs that is set; refused with NoText or NoKnob."""

    def __init__(self, text, knob, steps):
        self.program = parsed(text)
        need_knob(self.program, knob)
        self.knob = knob
        self.steps = steps

    def run_at(self, number):
        """The run with the knob set to the number, ended; of forms only this knob has one."""
        setting = list(self.program.numbers)
        setting[self.knob] = number
        knob_forms = [plain_form(other) for other in setting]
        knob_forms[self.knob] = form_of(self.knob)
        machine = Machine(self.program, knob_forms, setting, self.steps)
        machine.finish()
        return machine

    def pair_of(self, machine, form):
        """A form of a run by the knob alone: (c, m), c and m times its number."""
        return along(form, self.knob, machine.setting)

    def stretch_of(self, machine):
        """The least and the greatest number for which all conditions of the run hold."""
        least = greatest = None
        for _, form in machine.conditions:
            start, slope = self.pair_of(machine, form)
            if slope > 0:
                # The least one at or above -start / slope: // alone would go below.
                bound = -(start // slope)
                least = bound if least is None else max(least, bound)
            elif slope < 0:
                bound = start // -slope
                greatest = bound if greatest is None else min(greatest, bound)
        return least, greatest

    def row_at(self, low, high):
        """The row of a parting that begins at low, in a range that ends at high."""
        machine = self.run_at(low)
        _, greatest = self.stretch_of(machine)
        last = high if greatest is None else min(greatest, high)
        told = tuple([self.pair_of(machine, form) for form in machine.told])
        end = machine.end
        if end[0] == "back":
            end = ("back", self.pair_of(machine, end[1]))
        return low, last, told, end
