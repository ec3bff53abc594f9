"""[61] and [62]: the class Fill."""

import itertools
import unittest

from silentbeats.fillclasses import Fill
from silentbeats.morefills import lean_fill, signs_shared
from silentbeats.voiceclasses import Voice
from tests import reckon
from tests.base import NO_INTEGERS, NO_SIZES, PATTERN, BeatTest, shown
from tests.test_linefills import NO_ENTRIES_OF_EIGHT, searched
from tests.test_signs import NO_PATTERNS, SIX


class Derived(Fill):
    """A derived class."""


def some_fills():
    """Fills of some patterns, all of each on a few clocks."""
    for pattern, sizes in (
        ((0,), (1, 2, 5)), ((0, 1), (2, 4, 6, 10)), ((0, 3), (2, 6)), (PATTERN, (8, 16)), (SIX, (6, 12)),
        ((0, 12, 15), (9,)),
        ((0, 1, 2), (3, 9)), ((0, 4), (8,)), ((0, 33), (2, 10)), ((0, 5, 7), (3, 9)), ((0, 2, 9, 11), (4, 8)),
    ):
        for size in sizes:
            for entries in searched(size, pattern)[:20]:
                yield pattern, size, entries


class FillTest(BeatTest):
    def is_one(self, found, pattern, size, entries):
        self.assertIs(type(found), Fill)
        self.same((found.pattern_now, found.size_now, found.entries_now), (pattern, size, entries))

    def test_properties(self):
        for pattern, size, entries in some_fills():
            for it in (Fill(pattern, size, entries), Derived(pattern, size, entries)):
                self.same((it.pattern_now, it.size_now, it.entries_now), (pattern, size, entries))
                self.same(len(it), size // len(pattern))
                self.same(list(it), list(entries))
                self.same([(a, b) for a in it for b in it], list(itertools.product(entries, entries)))
        self.is_one(Fill(entries=(0,), size=2, pattern=(0, 1)), (0, 1), 2, (0,))

    def test_construction_refused(self):
        for kind in (Fill, Derived):
            for thing in NO_PATTERNS:
                self.refused("pattern", kind, thing, None, None)
            for size in NO_SIZES:
                self.refused("size", kind, PATTERN, size, None)
            for thing in NO_ENTRIES_OF_EIGHT + ((), (0,), (0, 1), (0, 4), tuple(range(8))):
                self.refused("entries", kind, PATTERN, 8, thing)

    def test_pairs_of_numbers(self):
        for pattern, size, entries in some_fills():
            it = Fill(pattern, size, entries)
            for number in list(range(-size - 2, 2 * size + 2)) + [10 ** 50, -(10 ** 50)]:
                pairs = [(element, entry) for element in pattern for entry in entries
                         if (element + entry - number) % size == 0]
                self.assertEqual(len(pairs), 1)
                self.tells(pairs[0], it, number)
                self.assertIs(number in it, any((number - entry) % size == 0 for entry in entries))
        self.same(Fill((0,), 1, (0,))(number=-3), (0, 0))

    def test_numbers_refused(self):
        it = Fill(PATTERN, 8, (0, 2))
        for thing in NO_INTEGERS:
            self.refused("number", it, thing)
            self.refused("number", it.later, thing)
        for thing in NO_INTEGERS + ((0, 2), it, Voice(1)):
            self.assertIs(thing in it, False)
        self.assertIs(True in Fill((0,), 1, (0,)), False)

    def test_shared_and_lean(self):
        for pattern, size, entries in some_fills():
            for it in (Fill(pattern, size, entries), Derived(pattern, size, entries)):
                self.tells(signs_shared(pattern, size, entries), it.shared)
                self.is_one(it.lean(), pattern, *lean_fill(pattern, size, entries))
        self.is_one(Fill(PATTERN, 24, (0, 2, 8, 10, 16, 18)).lean(), PATTERN, 8, (0, 6))

    def test_later(self):
        for pattern, size, entries in some_fills():
            it = Derived(pattern, size, entries)
            for number in (0, 1, -1, size, 7, -1000, 10 ** 50):
                later = tuple(sorted((entry + number) % size for entry in entries))
                self.is_one(it.later(number), pattern, size, later)
        self.is_one(Fill((0, 1), 2, (0,)).later(number=3), (0, 1), 2, (1,))

    def test_wider(self):
        for pattern, size, entries in some_fills():
            it = Derived(pattern, size, entries)
            for many in range(1, 14):
                if reckon.common(many, len(pattern)) == 1:
                    self.is_one(it.wider(many), tuple(many * element for element in pattern), size, entries)
                else:
                    self.refused("many", it.wider, many)
            for thing in NO_SIZES:
                self.refused("many", it.wider, thing)
        self.is_one(Fill((0,), 1, (0,)).wider(many=6), (0,), 1, (0,))

    def test_exchanged(self):
        for pattern, size, entries in some_fills():
            it = Derived(pattern, size, entries)
            if 0 not in entries:
                self.assertIsNone(it.exchanged())
                continue
            taken = tuple(sorted(element % size for element in pattern))
            found = it.exchanged()
            self.is_one(found, entries, size, taken)
            self.is_one(found.exchanged(), taken, size, entries)
            if pattern[-1] < size:
                self.assertIs(found.exchanged() == it, True)
            words = [word for _, word in it.shared()]
            swapped = ["entries" if word == "pattern" else "pattern" for word in words]
            self.same([word for _, word in found.shared()], swapped)
        self.assertIsNone(Fill((0, 1), 2, (1,)).exchanged())

    def test_equality(self):
        it = Fill(PATTERN, 8, (0, 2))
        for other in (Fill(PATTERN, 8, (0, 2)), Derived(PATTERN, 8, (0, 2))):
            self.assertIs(it == other, True)
            self.assertIs(other == it, True)
            self.assertIs(it != other, False)
        for other in (Fill(PATTERN, 8, (1, 3)), Fill(PATTERN, 16, (0, 2, 8, 10)), Fill((0, 3, 12, 15), 8, (0, 2)),
                      (PATTERN, 8, (0, 2)), None, True, 8, "", (0, 2), [0, 2]):
            self.assertIs(it == other, False)
            self.assertIs(it != other, True)
        self.assertIs(Fill((0, 1), 2, (0,)) == Fill((0, 3), 2, (0,)), False)

    def test_nothing_changes_it(self):
        it = Fill(PATTERN, 8, (0, 2))
        before = shown(it)
        for _ in range(2):
            told = (list(it), it(7), it(-1), 10 in it, len(it), it.shared(), it.lean().entries_now,
                    it.later(3).entries_now, it.wider(3).pattern_now, it.exchanged().pattern_now, it == it.later(8))
            self.assertEqual(shown(it), before)
            self.refused("number", it, None)
            self.refused("many", it.wider, 2)
            self.assertEqual(shown(it), before)
        self.same(told, ([0, 2], (5, 2), (5, 2), True, 2, ((2, "pattern"), (4, "entries"), (8, "pattern")), (0, 2), (3, 5),
                         (0, 3, 12, 15), (0, 2), True))


if __name__ == "__main__":
    unittest.main()
