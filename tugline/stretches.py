"""Stretches: the numbers of one knob for which a run goes one way."""

from tugline.alone import Alone


def stretch(text, knob, number, *, steps=300):
    """Tell (least, greatest) of the numbers that go the number's way, None for no end."""
    alone = Alone(text, knob, steps)
    return alone.stretch_of(alone.run_at(number))


def border(text, knob, number, *, steps=300):
    """Tell (turn, out, other) where the next number's way parts from the number's; None if it doesn't."""
    alone = Alone(text, knob, steps)
    way = alone.run_at(number).way
    next_way = alone.run_at(number + 1).way
    for turn, (one, other) in enumerate(zip(way, next_way)):
        if one != other:
            return turn, one[1], other[1]
    return None


def parting(text, knob, low, high, *, steps=300, most=100):
    """The list of rows (least, greatest, told, end) that cover the range; refused with TooMany."""
    return Alone(text, knob, steps).rows_of(low, high, most)


def wrong_row(text, knob, low, high, thing, *, steps=300):
    """The number of the first row of anything that isn't the parting's, or None."""
    alone = Alone(text, knob, steps)
    if not isinstance(thing, list):
        return 0
    start = low
    for at, row in enumerate(thing):
        if start > high:
            return at
        due = alone.row_at(start, high)
        if not is_same(row, due):
            return at
        start = due[1] + 1
    return len(thing) if start <= high else None


def is_same(thing, due):
    """Whether anything is just this row, or this part of one."""
    if isinstance(due, tuple):
        if not isinstance(thing, tuple) or len(thing) != len(due):
            return False
        return all([is_same(part, other) for part, other in zip(thing, due)])
    # A truth is equal to a number, but is none.
    return not isinstance(thing, bool) and thing == due
