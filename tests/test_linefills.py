"""[10] (G4), [56] to [58]: fills, and what they share."""

import itertools
import unittest

from silentbeats.errors import Unfilled
from silentbeats.evens import even_weight
from silentbeats.linefills import clock_entries, clock_of, fills_with, line_entries
from silentbeats.morefills import all_fills, lean_fill, signs_shared
from silentbeats.voices import voice_of
from tests import reckon
from tests.base import NO_SIZES, PATTERN, BeatTest, a_chance
from tests.test_signs import HALF, NO_PATTERNS, SIX, first, is_divided, prime_powers, second, signs, some_pattern

NO_ENTRIES_OF_EIGHT = (
    None, True, 0, 2, "", "02", [], [0, 2], (8,), (-1, 0), (0, 8), (2, 0), (2, 2), (0, True), (False, 2), (0, None),
    (0, "2"), ((0, 2),), (None,), (0, [2]),
)


def is_whole(pattern, size, entries):
    """Whether it is a fill: the sums are listed."""
    met = [(element + entry) % size for element in pattern for entry in entries]
    return len(met) == size == len(set(met))


def searched(size, pattern, entries=()):
    """All sets of entries by which it is a fill: the first beat not yet met asks for an entry."""
    met = {(element + entry) % size for element in pattern for entry in entries}
    if len(met) != len(pattern) * len(entries):
        return []
    if len(met) == size:
        return [tuple(sorted(entries))]
    beat = [beat for beat in range(size) if beat not in met][0]
    found = []
    for entry in sorted({(beat - element) % size for element in pattern}):
        if entry not in entries:
            found += searched(size, pattern, entries + (entry,))
    return found


def clock(pattern):
    many = 1
    for sign in signs(pattern):
        many = many * sign // reckon.common(many, sign)
    return many


class LineFills(BeatTest):
    def check_pattern(self, pattern):
        size = clock(pattern)
        self.tells(size, clock_of, pattern)
        if not first(pattern):
            self.fails(Unfilled, {"reason": "first"}, line_entries, pattern)
        elif not second(pattern):
            self.fails(Unfilled, {"reason": "second"}, line_entries, pattern)
        else:
            found = line_entries(pattern)
            self.tells(found, line_entries, pattern)
            self.check_fill(pattern, size, found[1])
            self.same(found[0], size)
        for size in (1, 2, 3, 4, 6, 8, 12, 24, 36, 72, 96, 120, 144, 180, 200):
            self.check_clock(size, pattern)

    def check_fill(self, pattern, size, entries):
        self.assertIs(type(entries), tuple)
        self.assertTrue(all(type(entry) is int and 0 <= entry < size for entry in entries))
        self.assertEqual(entries, tuple(sorted(set(entries))))
        self.assertTrue(is_whole(pattern, size, entries))
        self.tells(True, fills_with, pattern, size, entries)

    def check_clock(self, size, pattern):
        entries = clock_entries(size, pattern)
        self.tells(entries, clock_entries, size, pattern)
        self.assertIs(entries is not None, first(pattern) and second(pattern) and size % clock(pattern) == 0)
        if entries is not None:
            self.check_fill(pattern, size, entries)

    def test_all_small_patterns(self):
        for many in range(0, 7):
            for rest in itertools.combinations(range(1, 7), many):
                self.check_pattern((0,) + rest)

    def test_drawn_by_chance(self):
        chance = a_chance(560)
        for _ in range(80):
            self.check_pattern(some_pattern(chance))

    def test_against_search(self):
        for many in range(0, 6):
            for rest in itertools.combinations(range(1, 8), many):
                pattern = (0,) + rest
                for size in range(1, 13):
                    found = searched(size, pattern)
                    self.assertIs(clock_entries(size, pattern) is not None, found != [])
                    self.assertEqual(len(found), len(set(found)))
                    self.tells(len(found), all_fills, size, pattern)

    def test_edges(self):
        self.tells(1, clock_of, (0,))
        self.tells((1, (0,)), line_entries, (0,))
        self.tells((0, 1, 2, 3), clock_entries, 4, (0,))
        self.tells((0,), clock_entries, 1, (0,))
        self.tells(None, clock_entries, 1, (0, 1))
        self.tells((64, tuple(range(32))), line_entries, (0, 32))
        self.tells(12, clock_of, HALF)
        self.tells(1, clock_of, (0, 1, 3))
        self.fails(Unfilled, {"reason": "second"}, line_entries, HALF)
        self.fails(Unfilled, {"reason": "first"}, line_entries, (0, 1, 3))
        self.fails(Unfilled, {"reason": "first"}, line_entries, (0, 3, 5, 8, 9, 12, 14, 17, 18, 21, 23, 26))

    def test_fills_with(self):
        for size in range(1, 9):
            for pattern in ((0,), (0, 1), (0, 3), (0, 1, 2), (0, 1, 3), (0, 8), PATTERN, SIX):
                for many in range(0, size + 1):
                    for entries in itertools.combinations(range(size), many):
                        self.assertIs(fills_with(pattern, size, entries), is_whole(pattern, size, entries))
        self.tells(True, fills_with, (0,), 1, (0,))
        self.tells(False, fills_with, (0,), 1, ())
        self.tells(False, fills_with, (0, 1), 10 ** 59, (0, 5))
        self.tells(True, fills_with, (0, 1), 6000, tuple(range(0, 6000, 2)))

    def test_refused(self):
        for thing in NO_PATTERNS:
            for function in (clock_of, line_entries):
                self.refused("pattern", function, thing)
            for function in (fills_with, signs_shared, lean_fill):
                self.refused("pattern", function, thing, None, None)
                self.refused("pattern", function, thing, 1, (0,))
            for function in (clock_entries, all_fills):
                self.refused("pattern", function, 6, thing)
        for size in NO_SIZES:
            for function in (fills_with, signs_shared, lean_fill):
                self.refused("size", function, PATTERN, size, None)
            for function in (clock_entries, all_fills):
                self.refused("size", function, size, None)
                self.refused("size", function, size, PATTERN)
        for thing in NO_ENTRIES_OF_EIGHT:
            for function in (fills_with, signs_shared, lean_fill):
                self.refused("entries", function, PATTERN, 8, thing)

    def test_named(self):
        self.same(clock_entries(pattern=(0, 1), size=2), (0,))
        self.same(all_fills(pattern=(0, 1), size=2), 2)
        self.same(fills_with(entries=(0,), size=2, pattern=(0, 1)), True)
        self.same(signs_shared(entries=(0,), size=2, pattern=(0, 1)), ((2, "pattern"),))
        self.same(lean_fill(entries=(0,), size=2, pattern=(0, 1)), (2, (0,)))


class MoreFills(BeatTest):
    def all_found(self):
        """Patterns with all their fills on some clocks."""
        for pattern in ((0,), (0, 1), (0, 3), (0, 4), (0, 1, 2), (0, 2, 4), (0, 1, 5), PATTERN, (0, 2, 8, 10), SIX,
                        (0, 4, 8), (0, 9), (0, 25), (0, 1, 6, 7), (0, 1, 2, 9, 10, 11)):
            for size in range(1, 17):
                for entries in searched(size, pattern):
                    yield pattern, size, entries

    def test_signs_shared(self):
        for pattern, size, entries in list(self.all_found()):
            expected = []
            for power in prime_powers(size):
                if size % power == 0:
                    kept = [is_divided(pattern, power), is_divided(entries, power)]
                    self.assertEqual(kept.count(True), 1)
                    expected.append((power, "pattern" if kept[0] else "entries"))
            self.tells(tuple(expected), signs_shared, pattern, size, entries)

    def test_great_fills(self):
        pattern, entries = (0, 1), tuple(range(0, 6000, 2))
        shared = ((2, "pattern"),) + tuple((power, "entries") for power in (3, 4, 5, 8, 16, 25, 125))
        self.tells(shared, signs_shared, pattern, 6000, entries)
        self.tells((16, (0, 2, 4, 6, 8, 10, 12, 14)), lean_fill, pattern, 6000, entries)

    def test_lean_fill(self):
        for pattern, size, entries in list(self.all_found()):
            k = max(d for d in reckon.divisors(size) if reckon.common(d, len(pattern)) == 1)
            expected = (size // k, tuple(entry // k for entry in entries if entry % k == 0))
            self.tells(expected, lean_fill, pattern, size, entries)
            self.assertTrue(is_whole(pattern, *expected))
            self.assertLessEqual(set(reckon.primes(size // k)), set(reckon.primes(len(pattern))))
        self.tells((1, (0,)), lean_fill, (0,), 7, tuple(range(7)))
        self.tells((8, (0, 2)), lean_fill, PATTERN, 8, (0, 2))

    def test_no_fills_refused(self):
        for function in (signs_shared, lean_fill):
            for entries in ((), (0,), (0, 1), (0, 2, 4), (0, 4), tuple(range(8))):
                self.refused("entries", function, PATTERN, 8, entries)
            self.refused("entries", function, (0, 8), 8, (0, 1, 2, 3))
            self.refused("entries", function, (0,), 1, ())

    def test_all_fills(self):
        self.tells(1, all_fills, 1, (0,))
        self.tells(1, all_fills, 16, (0,))
        self.tells(256, all_fills, 16, (0, 8))
        self.tells(0, all_fills, 8, (0, 8))
        self.tells(0, all_fills, 1, (0, 1))
        self.tells(243, all_fills, 15, (0, 5, 10))
        self.tells(256, all_fills, 16, (0, 4, 8, 12))
        self.tells(0, all_fills, 16, (0, 1, 2))
        for size in (13, 14, 15, 16):
            for pattern in ((0, 1), (0, 2), (0, 7), (0, 1, 2), PATTERN, (0, 1, 2, 3, 4), (0, 2, 4, 6, 8), (0, 20)):
                self.tells(len(searched(size, pattern)), all_fills, size, pattern)

    def test_fills_against_all_sets_of_entries(self):
        for pattern in ((0,), (0, 1), (0, 3), PATTERN, SIX, (0, 6), (0, 4)):
            for size in range(1, 11):
                found = [entries for many in range(size + 1) for entries in itertools.combinations(range(size), many)
                         if is_whole(pattern, size, entries)]
                self.tells(len(found), all_fills, size, pattern)


class Consequences(BeatTest):
    def test_number_of_entries_and_even_products(self):
        for pattern in ((0, 1), PATTERN, SIX, (0, 2, 4), (0, 3)):
            for size in range(1, 37):
                entries = clock_entries(size, pattern)
                if entries is not None:
                    self.assertEqual(len(entries) * len(pattern), size)
                    strokes = voice_of(size, tuple(sorted(element % size for element in pattern)))
                    self.same(even_weight(strokes, voice_of(size, entries)), 1)
                    for k in (1, -3, 100):
                        later = tuple(sorted((entry + k) % size for entry in entries))
                        self.assertIs(fills_with(pattern, size, later), True)
                    for k in (1, 2, 3, 5, 7):
                        if reckon.common(k, len(pattern)) == 1:
                            self.assertIs(fills_with(tuple(k * element for element in pattern), size, entries), True)


if __name__ == "__main__":
    unittest.main()
