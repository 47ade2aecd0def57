"""Pulls found by trying: the text is run with each number, and each run is looked at."""

import functools

from tugline.forms import worth
from tugline.plain import run
from tugline.sources import knobs
from tugline.traced import first_broken, traced


def does(told, asked):
    """Whether what is told has at each place the number asked for there."""
    return all(0 <= place < len(told) and told[place] == number for place, number in asked)


@functools.lru_cache(maxsize=None)
def written(source):
    return tuple(knobs(source))


def set_at(source, *changes):
    """The numbers as written but for these, (knob, number) each."""
    setting = list(written(source))
    for knob, number in changes:
        setting[knob] = number
    return setting


def numbers_that_do(source, asked, knob, low, high, **more):
    return [
        number for number in range(low, high + 1)
        if does(run(source, setting=set_at(source, (knob, number)), **more)[0], asked)
    ]


def pull_by_runs(source, asked, knob, low, high, **more):
    """What a pull has to tell, by a run with each number of the range."""
    here = written(source)[knob]
    found = numbers_that_do(source, asked, knob, low, high, **more)
    return min(found, key=lambda number: (abs(number - here), number), default=None)


def pull_any_by_runs(source, asked, low, high, **more):
    found = []
    for knob, here in enumerate(written(source)):
        number = pull_by_runs(source, asked, knob, low, high, **more)
        if number is not None:
            found.append((abs(number - here), knob, number))
    return min(found)[1:] if found else None


def pairs_that_do(source, asked, knob, other, far, **more):
    """All pairs, moved by no more than far together, that go the written way and do it.

    Each pair stands behind what it is ranked by. The forms are asked, as there are many
    pairs; those that do it by their forms are run, too.
    """
    here, there = written(source)[knob], written(source)[other]
    told, _, way, _, conditions = traced(source, **more)
    found = []
    for move in range(-far, far + 1):
        for second in range(abs(move) - far, far - abs(move) + 1):
            setting = set_at(source, (knob, here + move), (other, there + second))
            if first_broken(conditions, setting) is None and does([worth(form, setting) for form in told], asked):
                plain = run(source, setting=setting, **more)
                assert plain[2] == way and does(plain[0], asked), (source, setting)
                found.append((abs(move) + abs(second), abs(move), here + move, there + second))
    return sorted(found)
