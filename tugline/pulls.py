"""Pulls: the nearest setting for which told numbers come to worths."""

from tugline.alone import Alone
from tugline.machine import run_by
from tugline.moves import least_moves, line_to_nought, slope_of
from tugline.programs import all_knobs, need_knob, parsed
from tugline.spans import nearest, pairs_of_worth, pairs_within, span_of


def pull(text, place, due, knob, low, high, *, pinned=(), steps=300, most=100):
    """The number of the range that does it and is nearest to the written one, or None.

    Refused with NoText, NoKnob or TooMany.
    """
    return nearest_of(Alone(text, knob, steps), asked_for(place, due, pinned), low, high, most)


def pull_any(text, place, due, low, high, *, pinned=(), steps=300, most=100):
    """The knob that is moved least to do it and its number, (knob, number), or None.

    Refused with NoText, or with TooMany of any knob.
    """
    asked = asked_for(place, due, pinned)
    found = []
    for knob in all_knobs(parsed(text)):
        alone = Alone(text, knob, steps)
        number = nearest_of(alone, asked, low, high, most)
        if number is not None:
            found.append((abs(number - alone.written), knob, number))
    if not found:
        return None
    _, knob, number = min(found)
    return knob, number


def pull_two(text, place, due, knob, other, *, pinned=(), steps=300):
    """The numbers of two knobs that do it along the way as written, moved least, or None.

    Refused with NoText or NoKnob.
    """
    program = parsed(text)
    need_knob(program, knob)
    need_knob(program, other)
    setting = program.numbers
    machine = run_by(program, [knob, other], setting, steps)
    noughts = []
    for at, number in asked_for(place, due, pinned):
        if not 0 <= at < len(machine.told):
            return None
        now, one, two = slope_of(machine.told[at], knob, other, setting)
        noughts.append((now - number, one, two))
    lacking = [slope for slope in noughts if slope[0] != 0]
    if not lacking:
        return setting[knob], setting[other]
    line = line_to_nought(lacking[0])
    if line is None:
        return None
    holding = [slope_of(form, knob, other, setting) for _, form in machine.conditions]
    return least_moves(line, noughts, holding, setting[knob], setting[other])


def asked_for(place, due, pinned):
    """The list of all (place, number) that a pull asks for."""
    return [(place, due)] + list(pinned)


def nearest_of(alone, asked, low, high, most):
    """The number of the range that does it by this knob and is nearest to the written one, or None."""
    found = []
    for row in alone.rows_of(low, high, most):
        number = nearest_in(row, asked, alone.written)
        if number is not None:
            found.append((abs(number - alone.written), number))
    return min(found)[1] if found else None


def nearest_in(row, asked, written):
    """The number of a row that does it and is nearest to the written one, or None."""
    least, greatest, told, _ = row
    pairs = pairs_within(least, greatest)
    for place, due in asked:
        if not 0 <= place < len(told):
            return None
        pairs.extend(pairs_of_worth(told[place], due))
    return nearest(span_of(pairs), written)
