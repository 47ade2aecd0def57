"""What a desk answers to the rows that ask."""

from tugline.plain import run
from tugline.programs import parsed
from tugline.stretches import parting, stretch
from tugline.traced import traced


def knobs_answer(text):
    """The knobs, each with its line and its number."""
    program = parsed(text)
    rows = []
    for knob, (line, number) in enumerate(zip(program.knob_lines, program.numbers)):
        rows.append(in_words([knob, line, number]))
    return in_rows(rows)


def run_answer(text):
    """The told numbers, the end and the way of the text's run."""
    told, end, way, _ = run(text)
    outs = [joined(turn) for turn in way]
    return "\n".join([in_words(told) or "none", in_words(end), in_words(outs) or "none"])


def forms_answer(text):
    """The forms of the told numbers."""
    return in_rows([form_in_words(form) for form in traced(text)[0]])


def conditions_answer(text):
    """The conditions of the text's run."""
    conditions = traced(text)[4]
    return in_rows([in_words([turn, form_in_words(form)]) for turn, form in conditions])


def stretch_answer(text, knob, number):
    """The ends of a stretch."""
    ends = stretch(text, knob, number)
    return in_words(["-" if end is None else end for end in ends])


def parting_answer(text, knob, low, high):
    """The rows of a parting."""
    rows = []
    for least, greatest, told, end in parting(text, knob, low, high):
        pairs = [joined(pair) for pair in told]
        if end[0] == "back":
            end = ("back", joined(end[1]))
        rows.append(in_words([least, greatest] + pairs + list(end)))
    return in_rows(rows)


def whence_answer(rows):
    """The knobs of a told place, each with its line and its times."""
    return in_rows([in_words(row) for row in rows])


def form_in_words(form):
    """A form: its number, and each knob's times behind it."""
    number, parts = form
    words = [str(number)]
    for knob, many in parts:
        words.append(str(knob) + "*" + str(many))
    return " + ".join(words)


def in_words(things):
    """The things with a blank between."""
    return " ".join([str(thing) for thing in things])


def joined(two):
    """Two things with a colon between."""
    one, other = two
    return str(one) + ":" + str(other)


def in_rows(rows):
    """The rows with a line feed between, or none."""
    return "\n".join(rows) if rows else "none"
