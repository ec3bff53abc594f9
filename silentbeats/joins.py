"""A clock whose size is a product of two without a common divisor, as a table of both."""

from math import gcd

from silentbeats.checks import need
from silentbeats.kinds import is_divisor, is_voice, is_voice_of


def is_table(thing):
    """Whether it is a nonempty tuple of equally long voices, rows and columns without a common divisor."""
    if not isinstance(thing, tuple) or len(thing) == 0 or not is_voice(thing[0]):
        return False
    many = len(thing[0])
    return gcd(len(thing), many) == 1 and all([is_voice_of(many, row) for row in thing])


def as_table(voice, size):
    """So many rows: row i has at j the weight at the beat that leaves i by this size, j by the other one."""
    need(is_divisor(len(voice), size) and gcd(size, len(voice) // size) == 1, "size")
    other = len(voice) // size
    beats = {(beat % size, beat % other): beat for beat in range(len(voice))}
    return tuple([tuple([voice[beats[(i, j)]] for j in range(other)]) for i in range(size)])


def from_table(table):
    """The voice of such a table."""
    need(is_table(table), "table")
    size = len(table)
    other = len(table[0])
    return tuple([table[beat % size][beat % other] for beat in range(size * other)])


def joined(one, other):
    """The voice whose table has the products of the weights of one and of other."""
    need(is_voice(other) and gcd(len(one), len(other)) == 1, "other")
    return tuple([one[beat % len(one)] * other[beat % len(other)] for beat in range(len(one) * len(other))])
