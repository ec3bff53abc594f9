"""What a room makes of entries, and which voices it makes."""

from silentbeats.checks import need
from silentbeats.entries import are_entries, parted, whole_multiple
from silentbeats.errors import Unmade
from silentbeats.kinds import is_voice_of
from silentbeats.linear import solved
from silentbeats.numbers import divisors_of
from silentbeats.silences import is_silent, silences_of, silent_basis, silent_rank
from silentbeats.voices import product_of


def can_make(one, other):
    """Whether one makes other."""
    return bar_of(one, other) is None


def bar_of(one, other):
    """The least divisor of the size at which one is silent and other is not; None if there is none."""
    need(is_voice_of(len(one), other), "other")
    for divisor in silences_of(one):
        if not is_silent(other, divisor):
            return divisor
    return None


def entries_for(one, other):
    """Entries whose product with one is other; Unmade if there are none."""
    bar = bar_of(one, other)
    if bar is not None:
        raise Unmade(bar)
    square = square_of(one)
    rank = len(square)
    return solved(square, other[:rank]) + ((0, 1),) * (len(one) - rank)


def square_of(one):
    """Rows of the weights that entries at the first beats are multiplied by to make those at the first beats."""
    # What one makes is silent where it is, so that its first weights, as many as the rank, fix it;
    # and entries at as many first beats make all of it, in one way.
    size = len(one)
    rank = silent_rank(size, silences_of(one))
    return [[one[(k - j) % size] for j in range(rank)] for k in range(rank)]


def heard(one, entries):
    """The product of one and entries, as quotients."""
    need(are_entries(len(one), entries), "entries")
    voice, bottom = whole_multiple(entries)
    return parted(product_of(one, voice), bottom)


def deaf_rows(one):
    """The silent_basis of all divisors at which one is not silent: what is heard as nothing is made of it."""
    size = len(one)
    sounding = tuple([divisor for divisor in divisors_of(size) if not is_silent(one, divisor)])
    return silent_basis(size, sounding)
