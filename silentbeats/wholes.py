"""What a room makes of entries that are integers."""

from silentbeats.entries import whole_multiple
from silentbeats.linear import determinant_size, solved
from silentbeats.rooms import entries_for, square_of
from silentbeats.voices import voice_of

# The entries that entries_for tells stand at the first beats, as many as the rank. Any integers that make
# other leave, by the polynomial that one brings to nothing, integers at these beats, for its lead is 1.
# So other is made wholly exactly if all that entries_for tells are integers.


def least_multiple(one, other):
    """The least integer above 0 whose product with other is made wholly by one; Unmade if one does not make it."""
    return whole_multiple(entries_for(one, other))[1]


def whole_entries(one, other):
    """A voice whose product with one is other; None if there is none; Unmade if one does not make other."""
    voice, bottom = whole_multiple(entries_for(one, other))
    return voice if bottom == 1 else None


def whole_bar(one, other):
    """A bar of both; None if one makes other wholly; Unmade if it does not make it."""
    broken = [k for k, (_, bottom) in enumerate(entries_for(one, other)) if bottom != 1]
    return telling(one, broken[0]) if broken != [] else None


def telling(one, k):
    """The tuple whose measure by what one makes is entry k of entries_for."""
    square = square_of(one)
    rank = len(square)
    turns = [[row[j] for row in square] for j in range(rank)]
    return solved(turns, voice_of(rank, (k,))) + ((0, 1),) * (len(one) - rank)


def room_index(one):
    """How many voices that one makes differ, two by two, by none that it makes wholly."""
    return determinant_size(square_of(one))
