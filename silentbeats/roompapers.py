"""Papers that tell whether a room makes a voice, and whether it makes it wholly."""

from silentbeats.rooms import bar_of, entries_for
from silentbeats.silences import rest_at
from silentbeats.wholes import whole_bar, whole_entries


def made_paper(one, other):
    """A paper with entries that make other, or with a divisor at which one is silent, and the rest of other there."""
    bar = bar_of(one, other)
    if bar is None:
        return ("made", entries_for(one, other))
    return ("silent", bar, rest_at(other, bar))


def whole_paper(one, other):
    """A paper with integers that make other, or with a bar; Unmade if one does not make other."""
    entries = whole_entries(one, other)
    return ("whole", entries) if entries is not None else ("bar", whole_bar(one, other))
