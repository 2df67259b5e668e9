"""Every error that the program raises."""


class NoJack(LookupError):
    """A number that ought to be a jack of the frame is none."""

    def __init__(self, jack):
        self.jack = jack


class NoBeam(LookupError):
    """The frame has no such beam."""

    def __init__(self, beam):
        self.beam = beam


class NoWord(LookupError):
    """A claim begins with a word that is none of those known."""

    def __init__(self, word):
        self.word = word


class NothingDone(LookupError):
    """There is nothing to take back, or to put back."""


class Unfit(ValueError):
    """An argument is not what the document says it is."""


class NoStand(ValueError):
    """Heights are no stand; beam is the least one that cracks."""

    def __init__(self, beam):
        self.beam = beam


class CanNot(ValueError):
    """What is asked for does not exist or cannot be done."""


class TooMany(ValueError):
    """There is more to go through than the document has answered."""


class BadText(ValueError):
    """A text is not as told; line is the first line that is not."""

    def __init__(self, line):
        self.line = line
