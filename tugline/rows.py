"""Rows of a desk, read by their words."""

from tugline.errors import NoRow
from tugline.words import is_number

# For each first word what the numbers behind it are.
SHAPES = {
    "text": (),
    "knobs": (),
    "run": (),
    "forms": (),
    "conditions": (),
    "stretch": ("K", "N"),
    "parting": ("K", "LOW", "HIGH"),
    "pull": ("PLACE", "WORTH", "K", "LOW", "HIGH"),
    "set": ("K", "N"),
    "back": (),
    "on": (),
    "whence": ("PLACE",),
}
FROM_NOUGHT = ("K", "PLACE")


def read_row(row):
    """The first word of a row and the list of the numbers behind it; refused with NoRow."""
    if not isinstance(row, str):
        raise NoRow(row)
    words = row.split(" ")
    if words[0] not in SHAPES:
        raise NoRow(row)
    shape = SHAPES[words[0]]
    figures = words[1:]
    if len(figures) != len(shape) or not all([is_number(word) for word in figures]):
        raise NoRow(row)
    numbers = [int(word) for word in figures]
    if not all([fits(what, number) for what, number in zip(shape, numbers)]):
        raise NoRow(row)
    # The two ends of a range are the last ones of each shape that has them.
    if "LOW" in shape and numbers[-2] > numbers[-1]:
        raise NoRow(row)
    return words[0], numbers


def fits(what, number):
    """Whether a number may stand for this."""
    return number >= 0 or what not in FROM_NOUGHT
