"""Forms: numbers by the knobs that go into them.

A form is (number, parts), parts a tuple of (knob, times) by rising knobs, no
times 0: the number and so many times the number of each knob.
"""


def form_of(knob):
    """The form of a knob."""
    return 0, ((knob, 1),)


def plain_form(number):
    """The form of a number into which no knob goes."""
    return number, ()


def added(one, other):
    """The sum of two forms."""
    return one[0] + other[0], parts_added(one[1], other[1])


def taken(one, other):
    """The first form less the second."""
    return added(one, times(other, -1))


def times(form, number):
    """The form so many times."""
    if number == 0:
        return plain_form(0)
    return form[0] * number, tuple([(knob, many * number) for knob, many in form[1]])


def worth(form, setting):
    """The form's number for a setting."""
    return form[0] + sum([many * setting[knob] for knob, many in form[1]])


def along(form, knob, setting):
    """The form by this knob alone, (c, m): c and m times the knob's number."""
    number, parts = form
    slope = 0
    for other, many in parts:
        if other == knob:
            slope = many
        else:
            number = number + many * setting[other]
    return number, slope


def parts_added(one, other):
    """The parts of the sum of two forms."""
    if not one or not other:
        return one or other
    counts = {knob: many for knob, many in one}
    for knob, many in other:
        counts[knob] = counts.get(knob, 0) + many
    return tuple([(knob, counts[knob]) for knob in sorted(counts) if counts[knob] != 0])
