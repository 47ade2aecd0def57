"""Runs that follow a given way, without a setting."""

from tugline.forms import form_of
from tugline.machine import Machine
from tugline.programs import all_knobs, is_whole


class Astray(Exception):
    """The next entry of a way can't be there; no caller of the program meets it."""


class Follower(Machine):
    """Runs a program with what comes out of each turn taken from a way."""

    def __init__(self, program, given, steps):
        forms = [form_of(knob) for knob in all_knobs(program)]
        # No held number's worth is asked for, so the setting plays no part.
        super().__init__(program, forms, [], steps)
        self.given = given

    def next_out(self):
        """What the next entry says comes out, if it is one of this line."""
        at = len(self.way)
        if at == len(self.given):
            raise Astray()
        entry = self.given[at]
        if not isinstance(entry, tuple) or len(entry) != 2:
            raise Astray()
        line, out = entry
        if not is_whole(line) or line != self.frames[-1].at:
            raise Astray()
        return out

    def out_of_test(self, sign, one, other):
        """What comes out of a test by the way."""
        outs = ("less", "same", "more") if sign == "==" else ("yes", "no")
        out = self.next_out()
        if out not in outs:
            raise Astray()
        return out

    def out_of_cell(self, place, long):
        """What comes out of a cell by the way, of a list so long."""
        out = self.next_out()
        if out not in ("below", "beyond") and not (is_whole(out) and 0 <= out < long):
            raise Astray()
        return out

    def out_of_quotient(self, one, divisor):
        """The quotient by the way, whatever the number and the divisor are."""
        out = self.next_out()
        if not is_whole(out):
            raise Astray()
        return out
