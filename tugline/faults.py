"""What ends a run ahead of its last line."""


class Fault(Exception):
    """A fault of a run, by its word; no caller of the program meets it."""

    def __init__(self, why):
        self.why = why
