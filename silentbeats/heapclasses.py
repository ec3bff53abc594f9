"""Heaps as objects that never change."""

from silentbeats.checks import need
from silentbeats.kinds import is_beat, is_integer, is_size, is_voice
from silentbeats.polygons import are_plain, are_rows, heap_weights, is_polygon, is_prime_of
from silentbeats.signed import signed_heap


def many_of(rows, pair):
    """How many times the rows, each of a polygon and its many, have this polygon."""
    return sum([row[2] for row in rows if row[:2] == pair])


def gathered(rows):
    """The heap of these rows, in which polygons may stand in any order and come again."""
    pairs = sorted([row[:2] for row in rows])
    once = [pair for k, pair in enumerate(pairs) if k == 0 or pairs[k - 1] != pair]
    manys = [many_of(rows, pair) for pair in once]
    return tuple([pair + (many,) for pair, many in zip(once, manys) if many != 0])


class Heap:
    """The heap of these triples (prime, first, many)."""

    def __init__(self, size, *rows):
        need(is_size(size), "size")
        need(are_rows(size, rows), "rows")
        self._size = size
        self._rows = rows

    @classmethod
    def of(cls, voice):
        """The Heap of signed_heap, with its errors."""
        need(is_voice(voice), "voice")
        rows = signed_heap(voice)
        return Heap(len(voice), *rows)

    @property
    def size_now(self):
        """How many beats the clock has."""
        return self._size

    @property
    def rows_now(self):
        """The triples, ascending."""
        return self._rows

    @property
    def voice_now(self):
        """The voice of the heap."""
        return heap_weights(self._size, self._rows)

    @property
    def is_plain_now(self):
        """Whether no many is below 0."""
        return are_plain(self._rows)

    @property
    def many_now(self):
        """The sum of all many."""
        return sum([many for _, _, many in self._rows])

    def __getitem__(self, at):
        need(is_polygon(self._size, at), "pair")
        return many_of(self._rows, at)

    def __contains__(self, x):
        return is_polygon(self._size, x) and many_of(self._rows, x) != 0

    def __len__(self):
        return len(self._rows)

    def __iter__(self):
        return iter(self._rows)

    def __eq__(self, other):
        return isinstance(other, Heap) and self._size == other._size and self._rows == other._rows

    def _rows_of(self, other):
        need(isinstance(other, Heap) and other._size == self._size, "other")
        return other._rows

    def __add__(self, other):
        rows = gathered(self._rows + self._rows_of(other))
        return Heap(self._size, *rows)

    def __sub__(self, other):
        taken = tuple([(prime, first, -many) for prime, first, many in self._rows_of(other)])
        rows = gathered(self._rows + taken)
        return Heap(self._size, *rows)

    def __call__(self, k):
        need(is_integer(k), "k")
        size = self._size
        rows = gathered([(prime, (first + k) % (size // prime), many) for prime, first, many in self._rows])
        return Heap(size, *rows)

    def traded(self, prime, other, first):
        """The Heap of the same voice with polygons of other, once each, for those of prime, every step from first."""
        size = self._size
        need(is_prime_of(size, prime), "prime")
        need(is_prime_of(size, other) and other != prime, "other")
        step = size // (prime * other)
        need(is_beat(step, first), "first")
        given = tuple([(prime, beat, -1) for beat in range(first, size // prime, step)])
        taken = tuple([(other, beat, 1) for beat in range(first, size // other, step)])
        rows = gathered(self._rows + given + taken)
        return Heap(size, *rows)
