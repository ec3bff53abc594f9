"""Echoes of voices: their products with their mirrors."""

from silentbeats.checks import need
from silentbeats.kinds import is_strokes, is_voice_of
from silentbeats.voices import mirrored, product_of


def echo_of(voice):
    """The product of the voice with its mirror."""
    return product_of(voice, mirrored(voice))


def crossed(one, other):
    """The product of one with the mirror of other."""
    need(is_voice_of(len(one), other), "other")
    return product_of(one, mirrored(other))


def same_echo(one, other):
    """Whether the echoes of two voices of one size are equal."""
    need(is_voice_of(len(one), other), "other")
    return echo_of(one) == echo_of(other)


def mixed_pair(one, other):
    """The products of one with other, and with the mirror of other: they have one echo."""
    return (product_of(one, other), crossed(one, other))


def intervals_of(voice):
    """For each k from 1 to half of the size, how many sets of two strokes are k beats apart."""
    need(is_strokes(voice), "voice")
    size = len(voice)
    echo = echo_of(voice)
    # Just half of the size apart, both ways round are as long, so that the echo counts each set of two twice.
    return tuple([echo[k] // 2 if 2 * k == size else echo[k] for k in range(1, size // 2 + 1)])


def the_others(voice):
    """The voice that has at each beat 1 less the weight."""
    return tuple([1 - weight for weight in voice])
