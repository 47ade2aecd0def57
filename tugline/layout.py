"""Where lines may stand, and which line follows which."""

from tugline.errors import NoText

MOST_DEPTH = 6
OPENERS = ("def", "if", "else", "while", "each")
LOOPS = ("while", "each")


class Nest:
    """The kinds of the lines that a next line stands in or behind, one for each depth."""

    def __init__(self):
        self.kinds = []

    def put(self, line, at):
        """Let the line come next; at is its number."""
        if not self.fits_depth(line.depth) or not self.fits_place(line.kind, line.depth):
            raise NoText(at)
        self.kinds = self.kinds[:line.depth] + [line.kind]

    def fits_depth(self, depth):
        """Whether a line of this depth may come: a block has a line, and one line opens it."""
        if depth > MOST_DEPTH:
            return False
        if not self.kinds or self.kinds[-1] in OPENERS:
            return depth == len(self.kinds)
        return depth < len(self.kinds)

    def fits_place(self, kind, depth):
        """Whether a line of this kind may come at a depth that fits."""
        in_defs = not self.kinds or self.kinds[0] == "def"
        if depth == 0 and self.kinds and in_defs and self.kinds[1] != "back":
            return False
        if kind == "def":
            return depth == 0 and in_defs
        if kind == "else":
            return depth < len(self.kinds) and self.kinds[depth] == "if"
        return True

    def may_end(self):
        """Whether no line lacks behind: the last one at depth 0 is a back."""
        return bool(self.kinds) and self.kinds[0] == "back"


def link(lines):
    """Set for each line which one comes after it, and which one if its test fails."""
    for at, line in enumerate(lines):
        line.after = line_after(lines, at)
        line.other = line_otherwise(lines, at)


def line_after(lines, at):
    """The line that is come to when this one and what is deeper are done; None behind the last."""
    depth = lines[at].depth
    for spot in range(at + 1, len(lines)):
        line = lines[spot]
        if line.depth < depth:
            break
        if line.depth == depth and line.kind != "else":
            return spot
    return line_after_block(lines, at)


def line_after_block(lines, at):
    """The line that is come to behind the block in which this line is the last at its depth."""
    owner = at
    while owner >= 0 and lines[owner].depth >= lines[at].depth:
        owner -= 1
    if owner < 0:
        return None
    if lines[owner].kind in LOOPS:
        return owner
    return line_after(lines, owner)


def line_otherwise(lines, at):
    """The line that is come to when this line's test fails."""
    depth = lines[at].depth
    for spot in range(at + 1, len(lines)):
        line = lines[spot]
        if line.depth <= depth:
            if line.depth == depth and line.kind == "else":
                return spot + 1
            break
    return line_after(lines, at)
