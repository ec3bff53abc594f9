"""Voices and quotients written as lines."""

from silentbeats.checks import need
from silentbeats.kinds import is_quotient, is_voice


def voice_line(voice):
    """The word voice and the weights, with single spaces between."""
    need(is_voice(voice), "voice")
    words = " ".join([str(weight) for weight in voice])
    return f"voice {words}"


def quotient_word(top, bottom):
    """The top and, unless it is 1, the bottom behind a stroke."""
    return str(top) if bottom == 1 else f"{top}/{bottom}"


def are_some_quotients(thing):
    """Whether it is a nonempty tuple of quotients."""
    return isinstance(thing, tuple) and thing != () and all([is_quotient(each) for each in thing])


def quotients_line(quotients):
    """The word quotients and these, with single spaces between."""
    need(are_some_quotients(quotients), "quotients")
    words = " ".join([quotient_word(top, bottom) for top, bottom in quotients])
    return f"quotients {words}"
