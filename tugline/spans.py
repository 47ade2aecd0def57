"""Spans: where whole numbers lie for which pairs hold.

A pair (c, m) is c and m times the number; it holds where that is 0 or more.
A span is (least, greatest), None for no end; none lies in it where the least
is above the greatest.
"""

NOWHERE = (0, -1)


def span_of(pairs):
    """The span of the numbers for which all these pairs hold."""
    least = greatest = None
    for start, slope in pairs:
        if slope > 0:
            # The least one at or above -start / slope: // alone would go below.
            bound = -(start // slope)
            least = bound if least is None else max(least, bound)
        elif slope < 0:
            bound = start // -slope
            greatest = bound if greatest is None else min(greatest, bound)
        elif start < 0:
            return NOWHERE
    return least, greatest


def pairs_within(least, greatest):
    """The pairs that hold from the least to the greatest number alone."""
    return [(-least, 1), (greatest, -1)]


def pairs_of_worth(pair, due):
    """The pairs that hold just where this one comes to the number that is due."""
    start, slope = pair
    return [(start - due, slope), (due - start, -slope)]


def nearest(span, number):
    """The number of a span with two ends that lies nearest to this one, or None."""
    least, greatest = span
    if least > greatest:
        return None
    return max(least, min(number, greatest))
