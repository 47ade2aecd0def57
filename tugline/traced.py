"""A run told by its forms and conditions."""

from tugline.forms import form_of, worth
from tugline.machine import Machine
from tugline.programs import parsed, setting_of_run


def traced(text, *, setting=None, steps=300):
    """Tell (told, end, way, many, conditions) of the text's run; refused with NoText or NoKnob."""
    program = parsed(text)
    numbers = setting_of_run(program, setting)
    machine = Machine(program, [form_of(knob) for knob in range(len(numbers))], numbers, steps)
    machine.finish()
    return tuple(machine.told), machine.end, tuple(machine.way), machine.many, machine.conditions


def first_broken(conditions, setting):
    """The turn of the first condition that doesn't hold for the setting, or None."""
    for turn, form in conditions:
        if worth(form, setting) < 0:
            return turn
    return None
