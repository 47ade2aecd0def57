"""Two knobs, each moved from what is written by a whole number.

A slope is (now, one, other): a number as it is now, and what each step of the
first and of the second move adds to it. A line of moves is two pairs (c, m),
of the first and of the second move: they go together, c and m times any whole
number for both.
"""

from tugline.forms import worth
from tugline.spans import nearest, pairs_of_worth, span_of

# The greatest number of sixty figures.
GREATEST = 10 ** 60 - 1


def slope_of(form, knob, other, setting):
    """The slope of a form by two knobs, as they are set now."""
    counts = {part: many for part, many in form[1]}
    return worth(form, setting), counts.get(knob, 0), counts.get(other, 0)


def pair_on(line, slope):
    """The slope along a line of moves, as a pair."""
    now, one, other = slope
    first, second = line
    return now + one * first[0] + other * second[0], one * first[1] + other * second[1]


def line_to_nought(slope):
    """The line of all moves that bring the slope to 0, or None where none does."""
    now, one, other = slope
    if one == 0 and other == 0:
        return None
    shared, first, second = shared_divisor(one, other)
    if now % shared != 0:
        return None
    many = -(now // shared)
    return (first * many, other // shared), (second * many, -(one // shared))


def shared_divisor(one, other):
    """(g, a, b): g divides both numbers, and is a times the one and b times the other."""
    shared, first, second = one, 1, 0
    left, left_first, left_second = other, 0, 1
    while left != 0:
        many = shared // left
        shared, left = left, shared - many * left
        first, left_first = left_first, first - many * left_first
        second, left_second = left_second, second - many * left_second
    return shared, first, second


def least_moves(line, noughts, holding, knob_now, other_now):
    """The numbers that two knobs come to by the least moves of a line, or None.

    These bring some slopes to 0 and keep others at 0 or above, and both knobs
    within sixty figures.
    """
    pairs = [pair_on(line, slope) for slope in holding + within_figures(knob_now, other_now)]
    for slope in noughts:
        pairs.extend(pairs_of_worth(pair_on(line, slope), 0))
    span = span_of(pairs)
    found = []
    for start, step in line:
        # A move is least next to where it is 0; between these two the sum goes evenly.
        if step != 0:
            found.extend([nearest(span, -start // step), nearest(span, -start // step + 1)])
    if None in found:
        return None
    _, _, number, second = min([ranked(line, at, knob_now, other_now) for at in found])
    return number, second


def within_figures(knob_now, other_now):
    """The slopes that are 0 or above where both knobs have at most sixty figures."""
    return [
        (GREATEST + knob_now, 1, 0),
        (GREATEST - knob_now, -1, 0),
        (GREATEST + other_now, 0, 1),
        (GREATEST - other_now, 0, -1),
    ]


def ranked(line, at, knob_now, other_now):
    """The moves at a number of the line: what they are ranked by, the knobs' numbers last."""
    one, other = [start + step * at for start, step in line]
    return abs(one) + abs(other), abs(one), knob_now + one, other_now + other
