"""A run, one small step after the other, without recursion."""

from tugline.amounts import added, cell_outcome, fixed_amount, knob_amount, multiplied
from tugline.amounts import need_list, need_numbers, outcome, quotient_of, rest_of, sized, taken
from tugline.faults import Fault

MOST_OPEN = 12


class Frame:
    """The main lines or one open call: its names, and how far its line is."""

    def __init__(self, names, at):
        self.names = names
        self.at = at
        self.begun = False
        self.spot = 0
        self.stack = []
        # For each "each" that is gone through: its items, and how many were met.
        self.loops = {}

    def go(self, at):
        """Come to the line of this number."""
        self.at = at
        self.begun = False

    def push(self, value):
        """Lay a value on the stack."""
        self.stack.append(value)

    def drop(self, many):
        """Take so many values off the stack, in the order in which they were laid."""
        start = len(self.stack) - many
        values = self.stack[start:]
        del self.stack[start:]
        return values


class Machine:
    """Runs a program with its knobs set to the setting."""

    def __init__(self, program, setting, steps):
        self.program = program
        self.setting = setting
        self.steps = steps
        self.many = 0
        self.told = []
        self.way = []
        self.end = None
        self.frames = [Frame({}, program.first)]

    def finish(self):
        """Run to the end."""
        try:
            while self.end is None:
                self.move()
        except Fault as fault:
            self.end = ("fault", fault.why, self.frames[-1].at)

    def move(self):
        """Begin a line, do one operation of it, or close it."""
        frame = self.frames[-1]
        line = self.program.lines[frame.at]
        if not frame.begun:
            self.begin(frame, line)
        elif frame.spot < len(line.code):
            what, detail = line.code[frame.spot]
            frame.spot += 1
            self.work(frame, what, detail)
        else:
            self.close(frame, line)

    def begin(self, frame, line):
        """Count the line, if one more may begin."""
        if self.many >= self.steps:
            raise Fault("steps")
        self.many += 1
        frame.begun = True
        # The list of an each is worked out at its first look alone.
        frame.spot = len(line.code) if frame.at in frame.loops else 0

    def turn(self, frame, out):
        """Note what comes out of a turn."""
        self.way.append((frame.at, out))

    def work(self, frame, what, detail):
        """Do one operation."""
        match what:
            case "knob":
                frame.push(knob_amount(self.setting[detail]))
            case "fixed":
                frame.push(fixed_amount(detail))
            case "name":
                frame.push(frame.names[detail] if detail in frame.names else fixed_amount(0))
            case "list":
                items = frame.drop(detail)
                need_numbers(items)
                frame.push(tuple(items))
            case "len":
                items = frame.drop(1)[0]
                need_list(items)
                frame.push(fixed_amount(len(items)))
            case "call":
                self.call(frame, detail)
            case _:
                one, other = frame.drop(2)
                frame.push(self.joined(frame, what, one, other))

    def joined(self, frame, what, one, other):
        """What an operation of two operands comes to; of a test a truth."""
        match what:
            case "+":
                return added(one, other)
            case "-":
                return taken(one, other)
            case "*":
                return multiplied(one, other)
            case "cell":
                return self.cell(frame, one, other)
            case "//" | "rest":
                return self.divided(frame, what, one, other)
            case _:
                return self.tested(frame, what, one, other)

    def cell(self, frame, items, place):
        """The cell of a list; a turn where its number is held."""
        need_list(items)
        need_numbers([place])
        out = cell_outcome(place.worth, len(items))
        if place.held:
            self.turn(frame, out)
        if out in ("below", "beyond"):
            raise Fault("place")
        return items[out]

    def divided(self, frame, what, one, other):
        """A quotient or a rest; a turn where what is divided is held."""
        quotient = quotient_of(one, other)
        if one.held:
            self.turn(frame, quotient)
        if what == "//":
            return sized(quotient, False, 0)
        return rest_of(one, other, quotient)

    def tested(self, frame, sign, one, other):
        """Whether a test holds; a turn where one of its numbers is held."""
        need_numbers([one, other])
        out = outcome(sign, one.worth, other.worth)
        if one.held or other.held:
            self.turn(frame, out)
        return out in ("yes", "same")

    def call(self, frame, call):
        """Open a call, its operands lying on the stack."""
        name, many = call
        values = frame.drop(many)
        if len(self.frames) > MOST_OPEN:
            raise Fault("deep")
        at = self.program.defs[name]
        params = self.program.lines[at].params
        self.frames.append(Frame(dict(zip(params, values)), at + 1))

    def close(self, frame, line):
        """Do what the line is for, its sums worked out, and come to the next one."""
        match line.kind:
            case "set":
                frame.names[line.name] = frame.drop(1)[0]
                frame.go(line.after)
            case "tell":
                values = frame.drop(1)
                need_numbers(values)
                self.told.append(values[0].worth)
                frame.go(line.after)
            case "back":
                self.leave(frame.drop(1)[0])
            case "each":
                self.look(frame, line)
            case _:
                frame.go(frame.at + 1 if frame.drop(1)[0] else line.other)

    def leave(self, value):
        """Go back with a value: out of a call, or out of the main lines."""
        if len(self.frames) == 1:
            need_numbers([value])
            self.end = ("back", value.worth)
        else:
            del self.frames[-1]
            self.frames[-1].push(value)

    def look(self, frame, line):
        """Go on with the next item of an each, or behind it."""
        if frame.at not in frame.loops:
            items = frame.drop(1)[0]
            need_list(items)
            frame.loops[frame.at] = (items, 0)
        items, met = frame.loops[frame.at]
        if met < len(items):
            frame.loops[frame.at] = (items, met + 1)
            frame.names[line.name] = items[met]
            frame.go(frame.at + 1)
        else:
            del frame.loops[frame.at]
            frame.go(line.after)
