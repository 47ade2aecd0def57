"""A run told by its forms and conditions."""

from tugline.forms import worth
from tugline.machine import run_by
from tugline.programs import all_knobs, parsed, setting_of_run


def traced(text, *, setting=None, steps=300):
    """Tell (told, end, way, many, conditions) of the text's run; refused with NoText or NoKnob."""
    program = parsed(text)
    machine = run_by(program, all_knobs(program), setting_of_run(program, setting), steps)
    return tuple(machine.told), machine.end, tuple(machine.way), machine.many, machine.conditions


def first_broken(conditions, setting):
    """The turn of the first condition that doesn't hold for the setting, or None."""
    for turn, form in conditions:
        if worth(form, setting) < 0:
            return turn
    return None
