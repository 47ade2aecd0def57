"""Ways that are followed without a setting, and stores of ways that were met."""

from tugline.followers import Astray, Follower
from tugline.forms import worth
from tugline.machine import run_by
from tugline.programs import all_knobs, parsed, setting_of_run
from tugline.traced import first_broken


def follow(text, way, *, steps=300):
    """Tell (told, end, many, conditions) along a way, or the number of its first entry that can't be there.

    Refused with NoText.
    """
    program = parsed(text)
    if not isinstance(way, tuple):
        return 0
    follower = Follower(program, way, steps)
    try:
        follower.finish()
    except Astray:
        return len(follower.way)
    if len(follower.way) < len(way):
        return len(follower.way)
    return tuple(follower.told), follower.end, follower.many, follower.conditions


class Ways:
    """The ways of a text that were met, as many as there is room for; refused with NoText."""

    def __init__(self, text, *, room=30, steps=300):
        self._program = parsed(text)
        self._room = room
        self._steps = steps
        # Runs by all knobs, that of the way met longest ago first.
        self._kept = []
        self._ran = 0

    def ask(self, setting):
        """Tell (told, end) at a setting, by a kept way or else by a run; refused with NoKnob."""
        numbers = setting_of_run(self._program, setting)
        for machine in self._kept:
            if first_broken(machine.conditions, numbers) is None:
                return answer_of(machine, numbers)
        machine = run_by(self._program, all_knobs(self._program), numbers, self._steps)
        self._ran += 1
        self._kept.append(machine)
        if len(self._kept) > self._room:
            self._kept.pop(0)
        return answer_of(machine, numbers)

    def ways(self):
        """The list of the kept ways, as they were met."""
        return [tuple(machine.way) for machine in self._kept]

    def runs(self):
        """How often it ran."""
        return self._ran

    def broken(self, setting):
        """The list of each kept way's first broken turn, or None; refused with NoKnob."""
        numbers = setting_of_run(self._program, setting)
        return [first_broken(machine.conditions, numbers) for machine in self._kept]


def answer_of(machine, setting):
    """What a run of this machine's way tells at a setting: (told, end)."""
    told = tuple([worth(form, setting) for form in machine.told])
    end = machine.end
    if end[0] == "back":
        end = ("back", worth(end[1], setting))
    return told, end
