"""The numbers of a run, and what is done with them.

A value of a run is an Amount, or a tuple of Amounts: a list of the text.
Each function here checks the faults of its operation in their order.
"""

from tugline.faults import Fault
from tugline.forms import added, plain_form, taken, times

# The least number of more than sixty figures.
TOO_GREAT = 10 ** 60
MOST_LONG = 60


class Amount:
    """A number by its form, whether it is held, and its reach: of one not held its size."""

    def __init__(self, form, held, reach):
        self.form = form
        self.held = held
        self.reach = reach


def knob_amount(form):
    """The number of a knob for which this form stands."""
    return Amount(form, True, 1)


def fixed_amount(number):
    """A number into which no knob goes."""
    return Amount(plain_form(number), False, abs(number))


def sized(form, held, reach):
    """What an operation comes to, unless it is too great."""
    if held:
        if reach >= TOO_GREAT:
            raise Fault("steep")
        return Amount(form, True, reach)
    # Into the form of what isn't held no knob goes: it is just a number.
    if abs(form[0]) >= TOO_GREAT:
        raise Fault("great")
    return fixed_amount(form[0])


def need_numbers(values):
    """Refuse values that aren't all numbers."""
    if not all([isinstance(value, Amount) for value in values]):
        raise Fault("kind")


def need_list(value):
    """Refuse a value that is no list."""
    if not isinstance(value, tuple):
        raise Fault("kind")


def sum_of(one, other):
    """The sum of two numbers, or two lists put together."""
    if isinstance(one, tuple) and isinstance(other, tuple):
        if len(one) + len(other) > MOST_LONG:
            raise Fault("long")
        return one + other
    need_numbers([one, other])
    return sized(added(one.form, other.form), one.held or other.held, one.reach + other.reach)


def difference_of(one, other):
    """The first number less the second."""
    need_numbers([one, other])
    return sized(taken(one.form, other.form), one.held or other.held, one.reach + other.reach)


def product_of(one, other):
    """The product of two numbers."""
    need_numbers([one, other])
    if one.held and other.held:
        raise Fault("bent")
    if one.held:
        form = times(one.form, other.form[0])
    else:
        form = times(other.form, one.form[0])
    return sized(form, one.held or other.held, one.reach * other.reach)


def divisor_of(one, other):
    """The second number as an int, if the first one may be divided by it."""
    need_numbers([one, other])
    if other.held:
        raise Fault("bent")
    if other.form[0] < 1:
        raise Fault("nought")
    return other.form[0]


def rest_of(one, divisor, quotient):
    """What is left of a number, its quotient by the divisor worked out."""
    return sized(added(one.form, plain_form(-divisor * quotient)), one.held, one.reach)
