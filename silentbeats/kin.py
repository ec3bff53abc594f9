"""Kin of a voice: what it, or its mirror, is when it is turned."""

from silentbeats.checks import need
from silentbeats.kinds import is_voice_of
from silentbeats.voices import mirrored, turned


def turns_of(voice):
    """The list of the voice turned by 0, 1 and so on, each beat once."""
    return [turned(voice, k) for k in range(len(voice))]


def kin_of(voice):
    """The list of all kin, ascending, without duplicates."""
    return sorted(set(turns_of(voice) + turns_of(mirrored(voice))))


def least_kin(voice):
    """The least of the voice's kin."""
    return kin_of(voice)[0]


def kin_count(voice):
    """How many unlike kin the voice has."""
    return len(kin_of(voice))


def kin_step(one, other):
    """The word and the least number by which one, or its mirror, turned, is other; None if other is no kin."""
    need(is_voice_of(len(one), other), "other")
    for word, turns in (("turned", turns_of(one)), ("mirrored", turns_of(mirrored(one)))):
        if other in turns:
            return (word, turns.index(other))
    return None
