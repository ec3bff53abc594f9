"""All errors of the package: a base class, four families, ten errors with their fields."""


class BeatError(ValueError):
    """The base class of all errors of the package."""


class PaperError(BeatError):
    """A paper, or another thing that is judged, does not stand."""


class VoiceError(BeatError):
    """A value cannot be used, or what is asked for is not to be had."""


class LiveError(BeatError):
    """A live score refuses something."""


class TextError(BeatError):
    """A text cannot be read."""


class InvalidPaper(PaperError):
    """The first thing that is wrong with a paper, and where."""

    def __init__(self, word, at):
        self.word = word
        self.at = at


class NotUsable(VoiceError):
    """The name of a parameter that is not as stated, and the index in it, or -1."""

    def __init__(self, word, at):
        self.word = word
        self.at = at


class Unmade(VoiceError):
    """A divisor at which a voice is silent, so that it does not make another one."""

    def __init__(self, divisor):
        self.divisor = divisor


class Unsilent(VoiceError):
    """The rest of a voice that had to be silent."""

    def __init__(self, rest):
        self.rest = rest


class Unfilled(VoiceError):
    """Why a pattern has no fill."""

    def __init__(self, reason):
        self.reason = reason


class TooMany(VoiceError):
    """How many there would be."""

    def __init__(self, many):
        self.many = many


class InvalidEvent(LiveError):
    """An event that is refused, and why."""

    def __init__(self, event, reason):
        self.event = event
        self.reason = reason


class NothingToUndo(LiveError):
    """How many steps can be taken back."""

    def __init__(self, steps):
        self.steps = steps


class InvalidText(TextError):
    """The line of a text, and the word in it, that cannot stand."""

    def __init__(self, line, field):
        self.line = line
        self.field = field


class InvalidRow(TextError):
    """A row that a desk does not know."""

    def __init__(self, row):
        self.row = row
