"""A run of a text on plain numbers."""

from tugline.machine import Machine
from tugline.programs import parsed, setting_for


def run(text, *, setting=None, steps=300):
    """Tell (told, end, way, many) of the text's run; refused with NoText or NoKnob."""
    program = parsed(text)
    numbers = setting_for(program, program.numbers if setting is None else setting)
    machine = Machine(program, numbers, steps)
    machine.finish()
    return tuple(machine.told), machine.end, tuple(machine.way), machine.many
