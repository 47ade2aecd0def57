"""A run of a text on plain numbers."""

from tugline.forms import plain_form
from tugline.machine import Machine
from tugline.programs import parsed, setting_of_run


def run(text, *, setting=None, steps=300):
    """Tell (told, end, way, many) of the text's run; refused with NoText or NoKnob."""
    program = parsed(text)
    numbers = setting_of_run(program, setting)
    machine = Machine(program, [plain_form(number) for number in numbers], numbers, steps)
    machine.finish()
    # No knob stands in these forms, so each is just its number.
    told = tuple([number for number, _ in machine.told])
    end = machine.end
    if end[0] == "back":
        end = ("back", end[1][0])
    return told, end, tuple(machine.way), machine.many
