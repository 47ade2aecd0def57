"""A run, one small step after the other, without recursion."""

from tugline.amounts import difference_of, divisor_of, fixed_amount, knob_amount, need_list
from tugline.amounts import need_numbers, product_of, rest_of, sized, sum_of
from tugline.faults import Fault
from tugline.forms import form_of, plain_form, worth
from tugline.turns import conditions_of_cell, conditions_of_quotient, conditions_of_test
from tugline.turns import outcome_of_cell, outcome_of_test

MOST_OPEN = 12


class Frame:
    """The main lines or one open call: its names, and how far its line is."""

    def __init__(self, names, at):
        self.names = names
        self.at = at
        self.begun = False
        self.spot = 0
        self.stack = []
        # For each "each" that is gone through: its items, and how many were met.
        self.loops = {}

    def go(self, at):
        """Come to the line of this number."""
        self.at = at
        self.begun = False

    def push(self, value):
        """Lay a value on the stack."""
        self.stack.append(value)

    def drop(self, many):
        """Take so many values off the stack, in the order in which they were laid."""
        start = len(self.stack) - many
        values = self.stack[start:]
        del self.stack[start:]
        return values


class Machine:
    """Runs a program with its knobs set to the setting.

    Of each knob the form is handed in that stands for it: its own one, or just
    its number, where the run needn't be told by this knob. What is told, the
    number that goes back and the conditions are forms.
    """

    def __init__(self, program, knob_forms, setting, steps):
        self.program = program
        self.knob_forms = knob_forms
        self.setting = setting
        self.steps = steps
        self.many = 0
        self.told = []
        self.way = []
        self.conditions = []
        self.end = None
        self.frames = [Frame({}, program.first)]

    def finish(self):
        """Run to the end."""
        try:
            while self.end is None:
                self.move()
        except Fault as fault:
            self.end = ("fault", fault.why, self.frames[-1].at)

    def move(self):
        """Begin a line, do one operation of it, or close it."""
        frame = self.frames[-1]
        line = self.program.lines[frame.at]
        if not frame.begun:
            self.begin(frame, line)
        elif frame.spot < len(line.code):
            what, detail = line.code[frame.spot]
            frame.spot += 1
            self.work(frame, what, detail)
        else:
            self.close(frame, line)

    def begin(self, frame, line):
        """Count the line, if one more may begin."""
        if self.many >= self.steps:
            raise Fault("steps")
        self.many += 1
        frame.begun = True
        # The list of an each is worked out at its first look alone.
        frame.spot = len(line.code) if frame.at in frame.loops else 0

    def turn(self, frame, out, forms):
        """Note what comes out of a turn, and its conditions."""
        turn = len(self.way)
        self.way.append((frame.at, out))
        self.conditions.extend([(turn, form) for form in forms])

    def worth_of(self, amount):
        """The worth of a number in this run."""
        return worth(amount.form, self.setting)

    def out_of_test(self, sign, one, other):
        """What comes out of a test of two numbers, one of them held."""
        return outcome_of_test(sign, self.worth_of(one), self.worth_of(other))

    def out_of_cell(self, place, long):
        """What comes out of a cell of a held number, of a list so long."""
        return outcome_of_cell(self.worth_of(place), long)

    def out_of_quotient(self, one, divisor):
        """The quotient of a held number by an int."""
        return self.worth_of(one) // divisor

    def work(self, frame, what, detail):
        """Do one operation."""
        match what:
            case "knob":
                frame.push(knob_amount(self.knob_forms[detail]))
            case "fixed":
                frame.push(fixed_amount(detail))
            case "name":
                frame.push(frame.names[detail] if detail in frame.names else fixed_amount(0))
            case "list":
                items = frame.drop(detail)
                need_numbers(items)
                frame.push(tuple(items))
            case "len":
                items = frame.drop(1)[0]
                need_list(items)
                frame.push(fixed_amount(len(items)))
            case "call":
                self.call(frame, detail)
            case _:
                one, other = frame.drop(2)
                frame.push(self.joined(frame, what, one, other))

    def joined(self, frame, what, one, other):
        """What an operation of two operands comes to; of a test a truth."""
        match what:
            case "+":
                return sum_of(one, other)
            case "-":
                return difference_of(one, other)
            case "*":
                return product_of(one, other)
            case "cell":
                return self.cell(frame, one, other)
            case "//" | "rest":
                return self.divided(frame, what, one, other)
            case _:
                return self.tested(frame, what, one, other)

    def cell(self, frame, items, place):
        """The cell of a list; a turn where its number is held."""
        need_list(items)
        need_numbers([place])
        if place.held:
            out = self.out_of_cell(place, len(items))
            self.turn(frame, out, conditions_of_cell(out, place.form, len(items)))
        else:
            out = outcome_of_cell(place.form[0], len(items))
        if out in ("below", "beyond"):
            raise Fault("place")
        return items[out]

    def divided(self, frame, what, one, other):
        """A quotient or a rest; a turn where what is divided is held."""
        divisor = divisor_of(one, other)
        if one.held:
            quotient = self.out_of_quotient(one, divisor)
            self.turn(frame, quotient, conditions_of_quotient(quotient, one.form, divisor))
        else:
            quotient = one.form[0] // divisor
        if what == "//":
            return sized(plain_form(quotient), False, 0)
        return rest_of(one, divisor, quotient)

    def tested(self, frame, sign, one, other):
        """Whether a test holds; a turn where one of its numbers is held."""
        need_numbers([one, other])
        if one.held or other.held:
            out = self.out_of_test(sign, one, other)
            self.turn(frame, out, conditions_of_test(sign, out, one.form, other.form))
        else:
            out = outcome_of_test(sign, one.form[0], other.form[0])
        return out in ("yes", "same")

    def call(self, frame, call):
        """Open a call, its operands lying on the stack."""
        name, many = call
        values = frame.drop(many)
        if len(self.frames) > MOST_OPEN:
            raise Fault("deep")
        at = self.program.defs[name]
        params = self.program.lines[at].params
        self.frames.append(Frame(dict(zip(params, values)), at + 1))

    def close(self, frame, line):
        """Do what the line is for, its sums worked out, and come to the next one."""
        match line.kind:
            case "set":
                frame.names[line.name] = frame.drop(1)[0]
                frame.go(line.after)
            case "tell":
                values = frame.drop(1)
                need_numbers(values)
                self.told.append(values[0].form)
                frame.go(line.after)
            case "back":
                self.leave(frame.drop(1)[0])
            case "each":
                self.look(frame, line)
            case _:
                frame.go(frame.at + 1 if frame.drop(1)[0] else line.other)

    def leave(self, value):
        """Go back with a value: out of a call, or out of the main lines."""
        if len(self.frames) == 1:
            need_numbers([value])
            self.end = ("back", value.form)
        else:
            del self.frames[-1]
            self.frames[-1].push(value)

    def look(self, frame, line):
        """Go on with the next item of an each, or behind it."""
        if frame.at not in frame.loops:
            items = frame.drop(1)[0]
            need_list(items)
            frame.loops[frame.at] = (items, 0)
        items, met = frame.loops[frame.at]
        if met < len(items):
            frame.loops[frame.at] = (items, met + 1)
            frame.names[line.name] = items[met]
            frame.go(frame.at + 1)
        else:
            del frame.loops[frame.at]
            frame.go(line.after)


def run_by(program, movers, setting, steps):
    """The ended run at a setting; these knobs have forms of their own, others are just their numbers."""
    knob_forms = []
    for knob, number in enumerate(setting):
        knob_forms.append(form_of(knob) if knob in movers else plain_form(number))
    machine = Machine(program, knob_forms, setting, steps)
    machine.finish()
    return machine
