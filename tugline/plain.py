"""A run of a text on plain numbers."""

from tugline.machine import run_by
from tugline.programs import parsed, setting_of_run


def run(text, *, setting=None, steps=300):
    """Tell (told, end, way, many) of the text's run; refused with NoText or NoKnob."""
    program = parsed(text)
    machine = run_by(program, [], setting_of_run(program, setting), steps)
    # No knob stands in these forms, so each is just its number.
    told = tuple([number for number, _ in machine.told])
    end = machine.end
    if end[0] == "back":
        end = ("back", end[1][0])
    return told, end, tuple(machine.way), machine.many
