"""Texts made at random, and a second way to run them: from what was made, by recursion.

A made text is a list of rows, together with the same thing as nested tuples. The run
here follows the tuples, so that neither the reading nor the machine of the package has
a part in it.
"""

NUMBERS = ("a", "b", "c")
LISTS = ("l", "m")


class Stop(Exception):
    """A fault here, with its why and line."""


class Back(Exception):
    """A call that goes back, with its value."""


class Maker:
    """Makes a text: rows, and the parts that the run follows."""

    def __init__(self, chance):
        self.chance = chance
        self.rows = []
        self.knobs = []
        self.knob_lines = []
        self.defs = {}
        # How a back is made: of the def g it is a list.
        self.goes_back = self.total

    def number(self):
        pick = self.chance.random()
        if pick < 0.9:
            return self.chance.randint(-3, 6)
        return self.chance.choice((10 ** 60 - 1, 1 - 10 ** 60, 10 ** 30, 60, 10 ** 59))

    def put(self, depth, words):
        self.rows.append("  " * depth + " ".join(words))

    def part(self, words, deep):
        pick = self.chance.randrange(14 if deep < 4 else 9)
        if pick < 2 and len(self.knobs) < 28:
            self.knobs.append(self.number())
            self.knob_lines.append(len(self.rows))
            words.append(str(self.knobs[-1]))
            return "knob", len(self.knobs) - 1
        if pick < 4:
            worth = self.number()
            words.append("!" + str(worth))
            return "fixed", worth
        if pick < 8:
            words.append(self.name(NUMBERS))
            return "name", words[-1]
        if pick == 8:
            words.extend(["len", self.name(LISTS)])
            return "len", words[-1]
        if pick < 11:
            words.append("(")
            found = self.total(words, deep + 1)
            words.append(")")
            return found
        if pick == 11 or "f" not in self.defs:
            name = self.name(LISTS)
            words.extend([name, "["])
            found = self.total(words, deep + 1)
            words.append("]")
            return "cell", name, found
        return self.call(words, "f", deep)

    def name(self, names):
        """One of these, but now and then a name of the other kind."""
        return self.chance.choice(names if self.chance.random() < 0.98 else NUMBERS + LISTS)

    def call(self, words, name, deep):
        words.extend([name, "("])
        values = self.several(words, len(self.defs[name]["params"]), deep)
        words.append(")")
        return "call", name, values

    def several(self, words, many, deep):
        found = []
        for k in range(many):
            if k:
                words.append(",")
            found.append(self.total(words, deep + 1))
        return found

    def term(self, words, deep):
        found = self.part(words, deep)
        while self.chance.random() < 0.2:
            sign = self.chance.choice(("*", "//", "rest"))
            words.append(sign)
            if self.chance.random() < 0.7:
                part = ("fixed", self.chance.randint(1, 5))
                words.append("!" + str(part[1]))
            else:
                part = self.part(words, deep)
            found = (sign, found, part)
        return found

    def total(self, words, deep=0):
        found = self.term(words, deep)
        while self.chance.random() < 0.3:
            sign = self.chance.choice("+-")
            words.append(sign)
            found = (sign, found, self.term(words, deep))
        return found

    def list_part(self, words, deep):
        pick = self.chance.randrange(6)
        if pick < 3 or deep > 3:
            words.append(self.name(LISTS))
            return "name", words[-1]
        if pick == 3 and "g" in self.defs:
            return self.call(words, "g", deep)
        words.append("[")
        items = self.several(words, self.chance.randrange(4), deep)
        words.append("]")
        return "list", items

    def list_total(self, words):
        found = self.list_part(words, 0)
        while self.chance.random() < 0.4:
            words.append("+")
            found = ("+", found, self.list_part(words, 0))
        return found

    def test(self, words):
        one = self.total(words)
        sign = self.chance.choice(("<", "<=", "=="))
        words.append(sign)
        return sign, one, self.total(words)

    def block(self, depth, many):
        return [self.line(depth) for _ in range(many)]

    def line(self, depth):
        pick = self.chance.randrange(10)
        at = len(self.rows)
        if pick < 4 or depth > 3 or at > 35:
            names, total = (LISTS, self.list_total) if pick == 0 else (NUMBERS, self.total)
            name = self.chance.choice(names)
            words = [name, "="]
            found = ("set", at, name, total(words))
            self.put(depth, words)
            return found
        if pick < 6:
            return self.simple("tell", depth)
        if pick == 6:
            words = ["while"]
            test = self.test(words)
            self.put(depth, words)
            return "while", at, test, self.block(depth + 1, self.chance.randint(1, 2))
        if pick == 7:
            name = self.chance.choice(NUMBERS)
            words = ["each", name, "in"]
            items = self.list_total(words)
            self.put(depth, words)
            return "each", at, name, items, self.block(depth + 1, self.chance.randint(1, 2))
        words = ["if"]
        test = self.test(words)
        self.put(depth, words)
        block = self.block(depth + 1, self.chance.randint(1, 2))
        if self.chance.random() < 0.1:
            block.append(self.simple("back", depth + 1, self.goes_back))
        otherwise = []
        if self.chance.random() < 0.5:
            self.put(depth, ["else"])
            otherwise = self.block(depth + 1, self.chance.randint(1, 2))
        return "if", at, test, block, otherwise

    def start(self, depth):
        """Mostly lists by name, so that cells and loops come to something."""
        if self.chance.random() < 0.1:
            return []
        at = len(self.rows)
        self.put(depth, "l = [ !1 , !2 , !3 ] + [ !4 ]".split(" "))
        self.put(depth, "m = l".split(" "))
        four = ("+", ("list", [("fixed", 1), ("fixed", 2), ("fixed", 3)]), ("list", [("fixed", 4)]))
        return [("set", at, "l", four), ("set", at + 1, "m", ("name", "l"))]

    def simple(self, word, depth, total=None):
        words = [word]
        found = (word, len(self.rows), (total or self.total)(words))
        self.put(depth, words)
        return found

    def text(self):
        for name, goes_back in (("f", self.total), ("g", self.list_total))[:self.chance.randrange(3)]:
            params = list(NUMBERS[:self.chance.randrange(3)])
            self.defs[name] = {"params": params, "rows": []}
            self.goes_back = goes_back
            self.put(0, ["def", name, *params])
            rows = self.start(1) + self.block(1, self.chance.randint(0, 2))
            self.defs[name]["rows"] = rows + [self.simple("back", 1, goes_back)]
        self.goes_back = self.total
        self.main = self.start(0) + self.block(0, self.chance.randint(2, 6)) + [self.simple("back", 0)]
        return "\n".join(self.rows)


def row_of(*parts):
    """The sum of rows, each handed in as (times, row)."""
    return [sum(many * row[k] for many, row in parts) for k in range(len(parts[0][1]))]


class Runner:
    """Runs what a maker made; a number is (worth, held, reach, row), a list a list of such.

    Its row stands for its form: the number that is there without a knob, then so many
    times each knob, 0 too.
    """

    def __init__(self, made, setting, steps):
        self.made = made
        self.setting = setting
        self.steps = steps
        self.told = []
        self.way = []
        self.conditions = []
        self.back = None
        self.many = 0
        self.open = 0
        self.at = None

    def result(self):
        try:
            try:
                self.block(self.made.main, {})
            except Back as back:
                value = back.args[0]
                self.back = self.number(value)
                end = ("back", value[0])
        except Stop as stop:
            end = ("fault", *stop.args)
        return tuple(value[0] for value in self.told), end, tuple(self.way), self.many

    def traced(self):
        """What is told of the forms, of a run that came to its end."""
        told, end, way, many = self.result()
        if self.back:
            end = ("back", self.form(self.back[3]))
        conditions = [(turn, self.form(row)) for turn, row in self.conditions]
        return tuple(self.form(value[3]) for value in self.told), end, way, many, conditions

    def form(self, row):
        return row[0], tuple((k, many) for k, many in enumerate(row[1:]) if many)

    def plain(self, number):
        return [number] + [0] * len(self.setting)

    def turn(self, out, *conditions):
        """Each condition is handed in as a number and (times, row) of what goes in."""
        for number, *parts in conditions:
            self.conditions.append((len(self.way), row_of((1, self.plain(number)), *parts)))
        self.way.append((self.at, out))

    def stop(self, why):
        raise Stop(why, self.at)

    def begin(self, at):
        self.at = at
        if self.many == self.steps:
            self.stop("steps")
        self.many += 1

    def block(self, rows, names):
        for row in rows:
            getattr(self, "do_" + row[0])(row[1], names, *row[2:])

    def do_set(self, at, names, name, total):
        self.begin(at)
        names[name] = self.value(total, names)

    def do_tell(self, at, names, total):
        self.begin(at)
        self.told.append(self.number(self.value(total, names)))

    def do_back(self, at, names, total):
        self.begin(at)
        raise Back(self.value(total, names))

    def do_if(self, at, names, test, block, otherwise):
        self.begin(at)
        self.block(block if self.test(test, names) else otherwise, names)

    def do_while(self, at, names, test, block):
        self.begin(at)
        while self.test(test, names):
            self.block(block, names)
            self.begin(at)

    def do_each(self, at, names, name, total, block):
        self.begin(at)
        items = self.value(total, names)
        if not isinstance(items, list):
            self.stop("kind")
        for item in items:
            names[name] = item
            self.block(block, names)
            self.begin(at)

    def number(self, value):
        if isinstance(value, list):
            self.stop("kind")
        return value

    def test(self, test, names):
        sign, one, other = test
        one, other = self.value(one, names), self.value(other, names)
        a, b = self.number(one), self.number(other)
        if sign == "==":
            out = ("more", "less", "same")[(a[0] < b[0]) + 2 * (a[0] == b[0])]
        else:
            out = "yes" if (a[0] < b[0] or sign == "<=" and a[0] == b[0]) else "no"
        rise, fall = ((1, b[3]), (-1, a[3])), ((1, a[3]), (-1, b[3]))
        conditions = {
            ("<", "yes"): [(-1, *rise)],
            ("<", "no"): [(0, *fall)],
            ("<=", "yes"): [(0, *rise)],
            ("<=", "no"): [(-1, *fall)],
            ("==", "less"): [(-1, *rise)],
            ("==", "same"): [(0, *fall), (0, *rise)],
            ("==", "more"): [(-1, *fall)],
        }
        if a[1] or b[1]:
            self.turn(out, *conditions[sign, out])
        return out in ("yes", "same")

    def value(self, part, names):
        what = part[0]
        if what == "knob":
            row = self.plain(0)
            row[1 + part[1]] = 1
            return self.setting[part[1]], True, 1, row
        if what == "fixed":
            return part[1], False, abs(part[1]), self.plain(part[1])
        if what == "name":
            return names.get(part[1], (0, False, 0, self.plain(0)))
        if what == "len":
            items = names.get(part[1], 0)
            if not isinstance(items, list):
                self.stop("kind")
            return len(items), False, len(items), self.plain(len(items))
        if what == "list":
            items = [self.value(item, names) for item in part[1]]
            return [self.number(item) for item in items]
        if what == "cell":
            return self.cell(names.get(part[1], 0), self.value(part[2], names))
        if what == "call":
            return self.call(part[1], [self.value(item, names) for item in part[2]])
        one = self.value(part[1], names)
        return self.joined(what, one, self.value(part[2], names))

    def cell(self, items, place):
        if not isinstance(items, list) or isinstance(place, list):
            self.stop("kind")
        out = "below" if place[0] < 0 else "beyond" if place[0] >= len(items) else place[0]
        if place[1] and out == "below":
            self.turn(out, (-1, (-1, place[3])))
        elif place[1] and out == "beyond":
            self.turn(out, (-len(items), (1, place[3])))
        elif place[1]:
            self.turn(out, (-out, (1, place[3])), (out, (-1, place[3])))
        if isinstance(out, str):
            self.stop("place")
        return items[out]

    def call(self, name, values):
        if self.open == 12:
            self.stop("deep")
        at, self.open = self.at, self.open + 1
        made = self.made.defs[name]
        try:
            self.block(made["rows"], dict(zip(made["params"], values)))
        except Back as back:
            self.at, self.open = at, self.open - 1
            return back.args[0]

    def joined(self, sign, one, other):
        if sign == "+" and isinstance(one, list) and isinstance(other, list):
            if len(one + other) > 60:
                self.stop("long")
            return one + other
        a, b = self.number(one), self.number(other)
        held = a[1] or b[1]
        if sign in "+-":
            many = 1 if sign == "+" else -1
            return self.sized(a[0] + many * b[0], held, a[2] + b[2], row_of((1, a[3]), (many, b[3])))
        if b[1] and (sign != "*" or a[1]):
            self.stop("bent")
        if sign == "*":
            row = row_of((a[0], b[3])) if b[1] else row_of((b[0], a[3]))
            return self.sized(a[0] * b[0], held, a[2] * b[2], row)
        if b[0] < 1:
            self.stop("nought")
        quotient, rest = divmod(a[0], b[0])
        if a[1]:
            goes_in = quotient * b[0]
            self.turn(quotient, (-goes_in, (1, a[3])), (goes_in + b[0] - 1, (-1, a[3])))
        if sign == "//":
            return self.sized(quotient, False, None, self.plain(quotient))
        return self.sized(rest, a[1], a[2], row_of((1, a[3]), (-quotient, b[3])))

    def sized(self, worth, held, reach, row):
        if held and len(str(reach)) > 60:
            self.stop("steep")
        if not held and len(str(abs(worth))) > 60:
            self.stop("great")
        return worth, held, reach if held else abs(worth), row
