"""The judge of voices."""

from silentbeats.errors import InvalidPaper
from silentbeats.kinds import is_integer


def lets_voice(thing):
    """The size of a voice; InvalidPaper for any other value."""
    if not isinstance(thing, tuple) or thing == ():
        raise InvalidPaper("shape", -1)
    for k, weight in enumerate(thing):
        if not is_integer(weight):
            raise InvalidPaper("weight", k)
    return len(thing)
