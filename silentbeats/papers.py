"""What the judges of papers share."""

from silentbeats.errors import InvalidPaper


def begins(thing, word, many):
    """Whether it is a tuple of so many that begins with the word."""
    return isinstance(thing, tuple) and len(thing) == many and thing[0] == word


def ends_in_tuple(thing, word, many):
    """Whether it is a tuple of so many that begins with the word and ends with a tuple."""
    return begins(thing, word, many) and isinstance(thing[many - 1], tuple)


def judge(fits, word, at):
    """Rejects the paper with this word, at this place of it, unless it fits."""
    if not fits:
        raise InvalidPaper(word, at)


def judge_beats(found, wanted):
    """Rejects the paper for the first beat at which not that is found which is wanted."""
    for beat, weight in enumerate(found):
        judge(weight == wanted[beat], "beat", beat)
