"""Turns: what comes out of one, and under which conditions it does.

The conditions are forms; a turn comes out so just where the worth of each is
0 or more.
"""

from tugline.forms import added, plain_form, taken, times


def outcome_of_test(sign, one, other):
    """What comes out of a test of two ints."""
    if sign == "==":
        if one == other:
            return "same"
        return "less" if one < other else "more"
    holds = one < other if sign == "<" else one <= other
    return "yes" if holds else "no"


def conditions_of_test(sign, out, one, other):
    """The conditions of a test of two forms that came out so."""
    rise = taken(other, one)
    fall = taken(one, other)
    if out == "same":
        return [fall, rise]
    if out == "less":
        return [raised(rise, -1)]
    if out == "more":
        return [raised(fall, -1)]
    if out == "yes":
        return [raised(rise, -1) if sign == "<" else rise]
    return [fall if sign == "<" else raised(fall, -1)]


def outcome_of_cell(place, long):
    """What comes out of asking a list so long for a cell: its number or where it lies."""
    if place < 0:
        return "below"
    return place if place < long else "beyond"


def conditions_of_cell(out, place, long):
    """The conditions of a cell whose place is a form, of a list so long, that came out so."""
    if out == "below":
        return [raised(times(place, -1), -1)]
    if out == "beyond":
        return [raised(place, -long)]
    return [raised(place, -out), raised(times(place, -1), out)]


def conditions_of_quotient(quotient, number, divisor):
    """The conditions of a quotient, or of the quotient of a rest, of a form by an int."""
    least = raised(number, -divisor * quotient)
    return [least, raised(times(least, -1), divisor - 1)]


def raised(form, number):
    """The form with an int added."""
    return added(form, plain_form(number))
