"""The refusals: one class for each, all of them under MomentError."""


class MomentError(ValueError):
    """Any refusal."""


class Fault(MomentError):
    """What keeps a happening from being done."""

    def word(self):
        return "fault"


class Nought(Fault):
    """A number of 0, or below 1, where it can't be divided by."""

    def word(self):
        return "nought"


class Great(Fault):
    """A formula that comes to no worth."""

    def word(self):
        return "great"


class Full(Fault):
    """A queue that takes no more."""

    def word(self):
        return "full"


class Dry(Fault):
    """A draw by a machine that has none."""

    def word(self):
        return "dry"


class Span(Fault):
    """A sign sent too short or too long ahead."""

    def word(self):
        return "span"


class Late(Fault):
    """A sign sent beyond the last time that there is."""

    def word(self):
        return "late"


class NoMark(MomentError):
    """A mark that is not kept."""


class TooLate(MomentError):
    """An outside sign that would come ahead of what is done already."""


class NoText(MomentError):
    """A text that can't be read; line is the first line that is wrong."""

    def __init__(self, line):
        self.line = line


class NoRoom(MomentError):
    """One outside sign too many."""


class NoModel(MomentError):
    """A job that needs a model, where none was loaded."""
