"""The numbers of a run, and what is done with them.

A value of a run is an Amount, or a tuple of Amounts: a list of the text.
Each function here checks the faults of its operation in their order.
"""

from tugline.faults import Fault

# The least number of more than sixty figures.
TOO_GREAT = 10 ** 60
MOST_LONG = 60


class Amount:
    """A number, whether it is held, and its reach: of one not held its size."""

    def __init__(self, worth, held, reach):
        self.worth = worth
        self.held = held
        self.reach = reach


def knob_amount(number):
    """The number of a knob."""
    return Amount(number, True, 1)


def fixed_amount(number):
    """A number into which no knob goes."""
    return Amount(number, False, abs(number))


def sized(worth, held, reach):
    """What an operation comes to, unless it is too great."""
    if held:
        if reach >= TOO_GREAT:
            raise Fault("steep")
        return Amount(worth, True, reach)
    if abs(worth) >= TOO_GREAT:
        raise Fault("great")
    return fixed_amount(worth)


def need_numbers(values):
    """Refuse values that aren't all numbers."""
    if not all([isinstance(value, Amount) for value in values]):
        raise Fault("kind")


def need_list(value):
    """Refuse a value that is no list."""
    if not isinstance(value, tuple):
        raise Fault("kind")


def added(one, other):
    """The sum of two numbers, or two lists put together."""
    if isinstance(one, tuple) and isinstance(other, tuple):
        if len(one) + len(other) > MOST_LONG:
            raise Fault("long")
        return one + other
    need_numbers([one, other])
    return sized(one.worth + other.worth, one.held or other.held, one.reach + other.reach)


def taken(one, other):
    """The first number less the second."""
    need_numbers([one, other])
    return sized(one.worth - other.worth, one.held or other.held, one.reach + other.reach)


def multiplied(one, other):
    """The product of two numbers."""
    need_numbers([one, other])
    if one.held and other.held:
        raise Fault("bent")
    return sized(one.worth * other.worth, one.held or other.held, one.reach * other.reach)


def quotient_of(one, other):
    """How often the second number goes into the first one, as a plain int."""
    need_numbers([one, other])
    if other.held:
        raise Fault("bent")
    if other.worth < 1:
        raise Fault("nought")
    return one.worth // other.worth


def rest_of(one, other, quotient):
    """What is left of the first number, its quotient by the second one worked out."""
    return sized(one.worth - other.worth * quotient, one.held, one.reach)


def outcome(sign, one, other):
    """What comes out of a test of two ints."""
    if sign == "==":
        if one == other:
            return "same"
        return "less" if one < other else "more"
    holds = one < other if sign == "<" else one <= other
    return "yes" if holds else "no"


def cell_outcome(place, long):
    """What comes out of asking a list so long for a cell: its number or where it lies."""
    if place < 0:
        return "below"
    return place if place < long else "beyond"
