"""What the program refuses: one class for each kind of refusal."""


class TugError(ValueError):
    """Any refusal."""


class NoText(TugError):
    """What was handed in is no text, by the number of a line."""

    def __init__(self, line):
        super().__init__("not a text: the field line tells where")
        self.line = line


class NoKnob(TugError):
    """The text has no such knob, or not so many of them."""

    def __init__(self, number):
        super().__init__("no such knob, or not so many: see the field number")
        self.number = number


class TooMany(TugError):
    """There are more rows than there may be."""

    def __init__(self, most):
        super().__init__("too many rows: the field most tells how many may be")
        self.most = most


class NoPull(TugError):
    """No number of the range pulls a told number to this worth."""

    def __init__(self, worth):
        super().__init__("no pull does it: see the field worth")
        self.worth = worth


class Nothing(TugError):
    """There is no text to go to, by the word that asked for it."""

    def __init__(self, word):
        super().__init__("nothing to go to: see the field word")
        self.word = word


class NoPlace(TugError):
    """The run tells no number at this place."""

    def __init__(self, place):
        super().__init__("nothing is told there: see the field place")
        self.place = place


class NoRow(TugError):
    """The desk can't take this row."""

    def __init__(self, row):
        super().__init__("not a row that is taken: see the field row")
        self.row = row
