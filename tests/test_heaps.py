"""[10] (G3), [47] and [48]: plain heaps."""

import itertools
import unittest
from collections import defaultdict

from silentbeats.errors import Unsilent
from silentbeats.heaps import heap_count, heap_of, heaps_at, is_heap, least_heap
from tests import reckon
from tests.base import PAIR, STEP, THIRDS, BeatTest, a_chance, some_voice
from tests.test_polygons import MIXED, some_rows

FEW_PRIMES = (1, 2, 3, 4, 5, 6, 8, 9, 10, 12, 15, 16, 18, 20, 24, 27, 36, 45, 72, 77, 98, 100, 108)
THREE_PRIMES = (30, 42, 60, 66, 70, 78, 84, 90, 102, 105, 110)


def plain_heaps(size, most):
    """All plain heaps in which no many is above most, by their voices."""
    found = defaultdict(list)
    polygons = reckon.polygons(size)
    for manys in itertools.product(range(most + 1), repeat=len(polygons)):
        rows = tuple((p, first, many) for (p, first), many in zip(polygons, manys) if many != 0)
        found[reckon.heap(size, rows)].append(rows)
    return found


def has_heap(voice, known):
    """Whether polygons can be taken off the voice until nothing is left: each way is tried."""
    size = len(voice)
    if not any(voice):
        return True
    if voice not in known:
        known[voice] = False
        struck = [beat for beat in range(size) if voice[beat] != 0][0]
        for prime in reckon.primes(size):
            strokes = range(struck % (size // prime), size, size // prime)
            if all(voice[beat] > 0 for beat in strokes):
                left = tuple(weight - int(beat in strokes) for beat, weight in enumerate(voice))
                if has_heap(left, known):
                    known[voice] = True
                    break
    return known[voice]


def some_silent(chance, size, rounds=150):
    """A voice without weights below 0 that is silent at its size: polygons are added, others taken off if they fit."""
    voice = [0] * size
    polygons = reckon.polygons(size)
    for k in range(rounds):
        prime, first = chance.choice(polygons)
        strokes = range(first, size, size // prime)
        if sum(voice) > 12 and all(voice[beat] > 0 for beat in strokes):
            step = -1
        elif sum(voice) < 40 and (k < 12 or chance.random() < 0.2):
            step = 1
        else:
            step = 0
        for beat in strokes:
            voice[beat] += step
    return tuple(voice)


class Heaps(BeatTest):
    def is_plain(self, rows, voice):
        """It is a plain heap of the voice."""
        size = len(voice)
        self.assertIs(type(rows), tuple)
        for row in rows:
            self.assertEqual([type(part) for part in (row,) + row], [tuple, int, int, int])
        pairs = [row[:2] for row in rows]
        self.assertEqual(pairs, sorted(set(pairs)))
        self.assertLessEqual(set(pairs), set(reckon.polygons(size)))
        self.assertTrue(all(many > 0 for _, _, many in rows))
        self.same(reckon.heap(size, rows), voice)

    def test_all_heaps_of_small_clocks(self):
        for size, most in ((1, 3), (2, 3), (3, 3), (4, 3), (5, 2), (6, 2), (8, 1), (9, 1), (10, 1), (12, 1)):
            found = plain_heaps(size, most)
            for voice in itertools.product(range(most + 1), repeat=size):
                self.check_small(voice, found.get(voice, []))

    def check_small(self, voice, heaps):
        size = len(voice)
        self.assertIs(is_heap(voice), heaps != [])
        self.assertIs(heaps != [], reckon_silent(voice))
        if not heaps:
            for function in (heap_of, least_heap, heap_count):
                with self.assertRaises(Unsilent):
                    function(voice)
            self.fails(Unsilent, {"rest": tuple(int(k) for k in reckon.rest(voice, size))}, heap_of, voice)
            return
        self.assertIn(heap_of(voice), heaps)
        self.same(heap_count(voice), len(heaps))
        fewest = min(sum(many for _, _, many in rows) for rows in heaps)
        least = [rows for rows in heaps if sum(many for _, _, many in rows) == fewest]
        self.assertEqual(len(least), 1)
        self.same(least_heap(voice), least[0])

    def test_greater_clocks_of_few_primes(self):
        chance = a_chance(470)
        for size in FEW_PRIMES:
            for most in (1, 3, 400):
                voice = reckon.heap(size, some_rows(chance, size, 0, most))
                self.tells(True, is_heap, voice)
                for function in (heap_of, least_heap):
                    rows = function(voice)
                    self.is_plain(rows, voice)
                    self.tells(rows, function, voice)
                self.check_least(voice)

    def check_least(self, voice):
        """No trade from least_heap for fewer polygons fits; heap_count is as [48] says."""
        size, primes = len(voice), reckon.primes(len(voice))
        rows = least_heap(voice)
        many = 1
        if len(primes) == 2:
            step = size // (primes[0] * primes[1])
            pairs = [row[:2] for row in rows]
            for coset in range(step):
                many *= 1 + min(voice[coset::step])
                firsts = range(coset, size // primes[0], step)
                self.assertFalse(all((primes[0], first) in pairs for first in firsts))
        self.tells(many, heap_count, voice)

    def test_three_primes(self):
        chance = a_chance(471)
        told = []
        for size in THREE_PRIMES:
            for _ in range(12):
                voice = some_silent(chance, size)
                expected = has_heap(voice, {})
                told.append(expected)
                self.tells(expected, is_heap, voice)
                rows = heap_of(voice)
                self.tells(rows, heap_of, voice)
                self.assertIs(rows is not None, expected)
                if expected:
                    self.is_plain(rows, voice)
        self.assertGreater(told.count(True), 20)
        self.assertGreater(told.count(False), 20)

    def test_great_heaps_of_three_primes(self):
        chance = a_chance(472)
        for size in THREE_PRIMES:
            voice = reckon.heap(size, some_rows(chance, size, 0, 330))
            self.tells(True, is_heap, voice)
            self.is_plain(heap_of(voice), voice)

    def test_refused_in_order(self):
        for function in (heap_of, least_heap, heap_count):
            self.refused("voice", function, MIXED)
            self.refused("voice", function, (1, -1, 0))
            self.refused("voice", function, (-1,))
            self.fails(Unsilent, {"rest": (1, 1)}, function, STEP)
            self.fails(Unsilent, {"rest": (3,)}, function, (3,))
        for size in THREE_PRIMES:
            for function in (least_heap, heap_count):
                self.refused("voice", function, (0,) * size)
                self.refused("voice", function, (1,) * size)
                self.refused("voice", function, (-1,) * size)
            rest = tuple(int(k) for k in reckon.rest((1,) + (0,) * (size - 1), size))
            self.fails(Unsilent, {"rest": rest}, least_heap, (1,) + (0,) * (size - 1))
            self.fails(Unsilent, {"rest": rest}, heap_count, (1,) + (0,) * (size - 1))
        for voice in (MIXED, STEP, (-1,), (1,), (1, -1), (0, 1, 0), (-1,) * 30, (1,) + (0,) * 29):
            self.tells(False, is_heap, voice)

    def test_edges(self):
        self.tells((), heap_of, (0,))
        self.tells((), least_heap, (0,))
        self.tells(1, heap_count, (0,))
        self.tells(True, is_heap, (0,))
        self.tells((), heap_of, (0,) * 12)
        self.tells(1, heap_count, (0,) * 12)
        self.tells((), heap_of, (0,) * 30)
        self.tells(((2, 0, 1000),), least_heap, (1000, 1000))
        self.tells(1, heap_count, (1000, 1000))
        self.tells(1001, heap_count, (1000,) * 6)
        self.tells(1001 ** 18, heap_count, (1000,) * 108)
        self.tells(1000 * 1001, heap_count, (1000, 999) * 6)


class Folded(BeatTest):
    def test_drawn_by_chance(self):
        chance = a_chance(473)
        for size in (1, 2, 6, 12, 30, 60):
            for voice in (reckon.heap(size, some_rows(chance, size, 0, 2)), some_voice(chance, size),
                          some_voice(chance, size, 0, 1), (1,) * size):
                for divisor in reckon.divisors(size):
                    self.check_folded(voice, divisor)

    def check_folded(self, voice, divisor):
        lesser = tuple(sum(voice[beat::divisor]) for beat in range(divisor))
        if min(lesser) < 0:
            self.refused("voice", heaps_at, voice, divisor)
        elif not reckon_silent(lesser):
            rest = tuple(int(k) for k in reckon.rest(lesser, divisor))
            self.fails(Unsilent, {"rest": rest}, heaps_at, voice, divisor)
        else:
            self.tells(heap_of(lesser), heaps_at, voice, divisor)
            self.same(reckon.heap(divisor, heaps_at(voice, divisor)), lesser)

    def test_errors_go_by_the_folded_weights(self):
        self.tells(((2, 0, 1),), heaps_at, (2, -1, -1, 2), 2)
        self.tells(((3, 0, 1),), heaps_at, (-1, 0, 0, 2, 1, 1), 3)
        self.refused("voice", heaps_at, (2, -1, -1, -2), 2)
        self.refused("voice", heaps_at, (-1, 0, 0), 1)
        self.fails(Unsilent, {"rest": (2,)}, heaps_at, PAIR, 1)
        self.fails(Unsilent, {"rest": (0, 1)}, heaps_at, (2, -1, 0, -2, 2, 0), 3)
        self.tells((), heaps_at, (1, 0, -1), 1)

    def test_divisors_come_first(self):
        for thing in (0, -1, 4, 5, 12, None, True, "2", (2,), [2], ()):
            self.refused("divisor", heaps_at, PAIR, thing)
            self.refused("divisor", heaps_at, (-1,) * 6, thing)
            self.refused("divisor", heaps_at, STEP, thing)
        self.same(heaps_at(divisor=2, voice=PAIR), ((2, 0, 1),))


class Consequences(BeatTest):
    def test_trades_join_all_heaps_of_a_voice(self):
        for voice, heaps in plain_heaps(6, 2).items():
            if max(voice) <= 2:
                seen = {heap_of(voice)}
                left = list(seen)
                while left:
                    rows = left.pop()
                    for away, back in ((2, 3), (3, 2)):
                        manys = {row[:2]: row[2] for row in rows}
                        for prime, step in ((away, -1), (back, 1)):
                            for first in range(6 // prime):
                                manys[(prime, first)] = manys.get((prime, first), 0) + step
                        traded = tuple(sorted(pair + (many,) for pair, many in manys.items() if many))
                        if all(many > 0 for _, _, many in traded) and traded not in seen:
                            seen.add(traded)
                            left.append(traded)
                self.assertEqual(seen, set(heaps))

    def test_great_enough_multiples_of_all_beats(self):
        chance = a_chance(480)
        for size in (4, 6, 12, 30):
            voice = reckon.heap(size, some_rows(chance, size))
            many = sum(abs(weight) for weight in voice)
            self.tells(True, is_heap, tuple(weight + many for weight in voice))


def reckon_silent(voice):
    return reckon.silent(voice, len(voice))


if __name__ == "__main__":
    unittest.main()
