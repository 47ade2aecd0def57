"""What the program refuses: one class for each kind of refusal."""


class TugError(ValueError):
    """Any refusal."""


class NoText(TugError):
    """What was handed in is no text, by the number of a line."""

    def __init__(self, line):
        super().__init__("no text, by the line that is the field")
        self.line = line


class NoKnob(TugError):
    """The text has no such knob, or not so many of them."""

    def __init__(self, number):
        super().__init__("no knobs, by the number that is the field")
        self.number = number


class TooMany(TugError):
    """There are more rows than there may be."""

    def __init__(self, most):
        super().__init__("more rows than the field allows")
        self.most = most


class NoPull(TugError):
    """No number of the range pulls a told number to this worth."""

    def __init__(self, worth):
        super().__init__("no pull to the worth that is the field")
        self.worth = worth


class Nothing(TugError):
    """There is no text to go to, by the word that asked for it."""

    def __init__(self, word):
        super().__init__("nothing to go to by the word that is the field")
        self.word = word


class NoPlace(TugError):
    """The run tells no number at this place."""

    def __init__(self, place):
        super().__init__("nothing told at the place that is the field")
        self.place = place


class NoRow(TugError):
    """The desk can't take this row."""

    def __init__(self, row):
        super().__init__("no row that is taken: the field")
        self.row = row
