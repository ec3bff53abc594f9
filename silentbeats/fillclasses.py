"""Fills as objects that never change."""

from math import gcd

from silentbeats.checks import need
from silentbeats.kinds import is_integer, is_size
from silentbeats.morefills import lean_fill, need_fill, signs_shared


class Fill:
    """The fill of the pattern by these entries on a clock of this size."""

    def __init__(self, pattern, size, entries):
        need_fill(pattern, size, entries)
        self._pattern = pattern
        self._size = size
        self._entries = entries

    @property
    def pattern_now(self):
        """The set of the elements."""
        return self._pattern

    @property
    def size_now(self):
        """How many beats the clock has."""
        return self._size

    @property
    def entries_now(self):
        """The set of the entries."""
        return self._entries

    def __len__(self):
        return len(self._entries)

    def __iter__(self):
        return iter(self._entries)

    def __contains__(self, x):
        return is_integer(x) and x % self._size in self._entries

    def __eq__(self, other):
        return (
            isinstance(other, Fill) and self._size == other._size
            and self._pattern == other._pattern and self._entries == other._entries
        )

    def __call__(self, number):
        need(is_integer(number), "number")
        pairs = [(beat, entry) for beat in self._pattern for entry in self._entries]
        return [pair for pair in pairs if (pair[0] + pair[1] - number) % self._size == 0][0]

    def shared(self):
        """For each prime power that divides the size, whether it is a sign of the pattern, or of the entries."""
        return signs_shared(self._pattern, self._size, self._entries)

    def lean(self):
        """The Fill on the clock whose size has no primes but those of the number of elements."""
        size, entries = lean_fill(self._pattern, self._size, self._entries)
        return Fill(self._pattern, size, entries)

    def later(self, number):
        """The Fill with the entries turned by this number."""
        need(is_integer(number), "number")
        entries = sorted([(entry + number) % self._size for entry in self._entries])
        return Fill(self._pattern, self._size, tuple(entries))

    def wider(self, many):
        """The Fill whose pattern has each element so many times."""
        need(is_size(many) and gcd(many, len(self._pattern)) == 1, "many")
        return Fill(tuple([beat * many for beat in self._pattern]), self._size, self._entries)

    def exchanged(self):
        """The Fill of the entries by the elements, taken by the size; None if 0 is no entry."""
        if 0 not in self._entries:
            return None
        beats = sorted([beat % self._size for beat in self._pattern])
        return Fill(self._entries, self._size, tuple(beats))
