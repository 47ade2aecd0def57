"""Texts: whether something is one, and the knobs of one."""

from tugline.programs import need_knob, parsed, setting_for
from tugline.words import is_number


def read(text):
    """Tell None of a text; anything else is refused with NoText."""
    parsed(text)


def knobs(text):
    """The list of the numbers of the text's knobs."""
    return list(parsed(text).numbers)


def line_of(text, knob):
    """The number of the line that the knob stands in; refused with NoKnob."""
    program = parsed(text)
    need_knob(program, knob)
    return program.knob_lines[knob]


def set_to(text, numbers):
    """The text with its knobs set to these numbers; refused with NoKnob."""
    setting = setting_for(parsed(text), numbers)
    rows = []
    ahead = 0
    for row in text.split("\n"):
        words = row.split(" ")
        rows.append(" ".join(set_words(words, setting, ahead)))
        ahead += len([word for word in words if is_number(word)])
    return "\n".join(rows)


def set_words(words, setting, ahead):
    """The words with each knob set; so many knobs stand ahead of these words."""
    found = []
    knob = ahead
    for word in words:
        if is_number(word):
            found.append(str(setting[knob]))
            knob += 1
        else:
            found.append(word)
    return found
