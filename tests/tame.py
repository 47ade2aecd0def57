"""Texts made at random that mostly come to their end, along ways of many turns."""

from tests.reference import LISTS, NUMBERS, Maker


class TameMaker(Maker):
    """Makes texts with many knobs, few of whose runs end in a fault."""

    def number(self):
        if self.chance.random() < 0.97:
            return self.chance.randint(-4, 12)
        return self.chance.choice((10 ** 60 - 1, 1 - 10 ** 60, 10 ** 30))

    def name(self, names):
        return self.chance.choice(names)

    def has(self, name):
        """Whether the def is there, up to its last line: so that no call is deep."""
        return name in self.defs and self.defs[name]["rows"] != []

    def fixed(self, words, worth):
        words.append("!%d" % worth)
        return "fixed", worth

    def figure(self, words):
        """A knob, or a fixed one."""
        if self.chance.random() < 0.15 or len(self.knobs) == 25:
            return self.fixed(words, self.number())
        self.knobs.append(self.number())
        self.knob_lines.append(len(self.rows))
        words.append(str(self.knobs[-1]))
        return "knob", len(self.knobs) - 1

    def part(self, words, deep):
        pick = self.chance.randrange(16 if deep < 4 else 11)
        if pick < 6:
            return self.figure(words)
        if pick < 10:
            words.append(self.name(NUMBERS))
            return "name", words[-1]
        if pick == 10:
            words.extend(["len", self.name(LISTS)])
            return "len", words[-1]
        if pick < 13:
            words.append("(")
            found = self.total(words, deep + 1)
            words.append(")")
            return found
        if pick == 13 or not self.has("f"):
            return self.cell(words, deep)
        return self.call(words, "f", deep)

    def cell(self, words, deep):
        """Mostly of a number that the list has."""
        name = self.name(LISTS)
        words.extend([name, "["])
        if self.chance.random() < 0.1:
            found = self.total(words, deep + 1)
        else:
            words.append("(")
            found = self.total(words, deep + 2)
            words.extend([")", "rest"])
            found = ("rest", found, self.fixed(words, 4))
        words.append("]")
        return "cell", name, found

    def term(self, words, deep):
        found = self.part(words, deep)
        while self.chance.random() < 0.25:
            sign = self.chance.choice(("*", "//", "rest"))
            words.append(sign)
            found = (sign, found, self.fixed(words, self.chance.randint(1 if sign != "*" else -3, 7)))
        return found

    def list_part(self, words, deep):
        if self.has("g") and self.chance.random() < 0.2:
            return self.call(words, "g", deep)
        words.append("[")
        items = self.several(words, 4, deep)
        words.append("]")
        return "list", items

    def start(self, depth):
        found = []
        for name in LISTS:
            words = [name, "=", "["]
            items = []
            for k in range(4):
                items.append(self.figure(words))
                words.append("," if k < 3 else "]")
            found.append(("set", len(self.rows), name, ("list", items)))
            self.put(depth, words)
        return found

    def line(self, depth):
        if self.chance.random() < 0.9 or depth > 3 or len(self.rows) > 35:
            return super().line(depth)
        return self.counting(depth)

    def counting(self, depth):
        """A while whose name is raised at the end of each round."""
        at = len(self.rows)
        name = self.chance.choice(NUMBERS)
        words = ["while", name, "<"]
        test = ("<", ("name", name), self.total(words))
        self.put(depth, words)
        block = self.block(depth + 1, 1)
        words = [name, "=", name, "+"]
        raised = ("+", ("name", name), self.fixed(words, self.chance.randint(1, 4)))
        block.append(("set", len(self.rows), name, raised))
        self.put(depth + 1, words)
        return "while", at, test, block
