"""[52]: the class Heap."""

import itertools
import unittest

from silentbeats.errors import Unsilent
from silentbeats.heapclasses import Heap
from silentbeats.signed import signed_heap
from silentbeats.voiceclasses import Voice
from tests import reckon
from tests.base import NO_INTEGERS, NO_SIZES, NO_VOICES, PAIR, STEP, BeatTest, a_chance, shown
from tests.test_heaps import plain_heaps
from tests.test_polygons import MIXED, NO_ROWS_OF_SIX, SIZES, some_rows


class Derived(Heap):
    """A derived class."""


NO_PAIRS_OF_SIX = (
    None, True, 0, 2, "", "20", (), (2,), (2, 0, 1), [2, 0], ((2, 0),), (2, 3), (2, -1), (3, 2), (4, 0), (5, 0), (6, 0),
    (1, 0), (0, 0), (-2, 0), (2, True), (2, False), (True, 0), (2, None), (2, "0"), (2, (0,)), (2, [0]),
)


def together(size, *parts):
    """The sum of heaps, each behind how many times it is taken."""
    manys = {pair: 0 for pair in reckon.polygons(size)}
    for times, rows in parts:
        for prime, first, many in rows:
            manys[(prime, first)] += times * many
    return tuple(pair + (many,) for pair, many in manys.items() if many != 0)


class HeapTest(BeatTest):
    def is_one(self, found, size, rows):
        self.assertIs(type(found), Heap)
        self.same((found.size_now, found.rows_now), (size, rows))

    def test_properties(self):
        chance = a_chance(520)
        for size in SIZES:
            for rows in ((), some_rows(chance, size), some_rows(chance, size, 0, 2), some_rows(chance, size, -2, 0)):
                for one in (Heap(size, *rows), Derived(size, *rows)):
                    self.same((one.size_now, one.rows_now), (size, rows))
                    self.same(one.voice_now, reckon.heap(size, rows))
                    self.same(one.is_plain_now, all(many > 0 for _, _, many in rows))
                    self.same(one.many_now, sum(many for _, _, many in rows))
                    self.same(len(one), len(rows))
                    self.same(list(one), list(rows))

    def test_construction_refused(self):
        for size in NO_SIZES:
            self.refused("size", Heap, size)
            self.refused("size", Heap, size, (2, 0, 1))
            self.refused("size", Heap, size, None)
        for rows in NO_ROWS_OF_SIX:
            if isinstance(rows, tuple) and rows and rows != (2, 0, 1):
                self.refused("rows", Heap, 6, *rows)
                self.refused("rows", Heap, 6, rows)
        for thing in (None, True, 0, "", (), [2, 0, 1], ((2, 0, 1),)):
            self.refused("rows", Heap, 6, thing)
            self.refused("rows", Heap, 6, (2, 0, 1), thing)
        self.refused("rows", Heap, 6, (3, 0, 1), (2, 0, 1))
        self.refused("rows", Heap, 1, (2, 0, 1))
        self.is_one(Heap(6, (2, 0, 1)), 6, ((2, 0, 1),))
        self.is_one(Heap(1), 1, ())

    def test_items(self):
        rows = ((2, 0, 5), (2, 2, -1), (3, 1, 2))
        one = Heap(6, *rows)
        manys = {row[:2]: row[2] for row in rows}
        for pair in reckon.polygons(6):
            self.same(one[pair], manys.get(pair, 0))
            self.assertIs(pair in one, pair in manys)
        self.same(one[2, 0], 5)
        for thing in NO_PAIRS_OF_SIX:
            self.refused("pair", lambda at: one[at], thing)
            self.assertIs(thing in one, False)
        self.refused("pair", lambda at: Heap(1)[at], (2, 0))
        self.assertIs((2, 0) in Heap(1), False)
        for thing in rows + (one, Voice(*PAIR)):
            self.assertIs(thing in one, False)

    def test_two_loops_at_once(self):
        rows = ((2, 0, 1), (2, 1, -2), (3, 0, 3))
        one = Heap(6, *rows)
        self.same([(a, b) for a in one for b in one], list(itertools.product(rows, rows)))
        self.same(list(zip(one, one)), list(zip(rows, rows)))
        self.same(list(Heap(6)), [])

    def test_sums_and_differences(self):
        chance = a_chance(521)
        for size in SIZES:
            for _ in range(3):
                mine, theirs = some_rows(chance, size), some_rows(chance, size)
                for one, other in itertools.product((Heap(size, *mine), Derived(size, *mine)),
                                                    (Heap(size, *theirs), Derived(size, *theirs))):
                    self.is_one(one + other, size, together(size, (1, mine), (1, theirs)))
                    self.is_one(one - other, size, together(size, (1, mine), (-1, theirs)))
                    self.is_one(one - one, size, ())
                    self.is_one(one + one, size, together(size, (2, mine)))
                    self.same((one + other).voice_now, tuple(a + b for a, b in zip(one.voice_now, other.voice_now)))
        for one, other in ((Heap(6), Heap(6, (2, 0, 1))), (Heap(6, (2, 0, 1)), Heap(6))):
            self.is_one(one + other, 6, ((2, 0, 1),))
        self.is_one(Heap(6) - Heap(6, (2, 0, 1)), 6, ((2, 0, -1),))

    def test_partners_refused(self):
        one = Heap(6, (2, 0, 1))
        for thing in (None, True, 0, 1, "", (), ((2, 0, 1),), [], PAIR, Voice(*PAIR), Heap(12), Heap(3), Derived(12)):
            self.refused("other", lambda x: one + x, thing)
            self.refused("other", lambda x: one - x, thing)

    def test_turned(self):
        chance = a_chance(522)
        for size in SIZES:
            rows = some_rows(chance, size)
            for one in (Heap(size, *rows), Derived(size, *rows)):
                for k in (0, 1, -1, size, size - 1, 7, -1000, 10 ** 50):
                    moved = [(p, (first + k) % (size // p), many) for p, first, many in rows]
                    self.is_one(one(k), size, tuple(sorted(moved)))
                    self.same(one(k).voice_now, reckon.later(reckon.heap(size, rows), k))
        for thing in NO_INTEGERS:
            self.refused("k", Heap(6, (2, 0, 1)), thing)
        self.same(Heap(6, (2, 0, 1))(k=1).rows_now, ((2, 1, 1),))

    def test_traded(self):
        chance = a_chance(523)
        for size in SIZES:
            rows = some_rows(chance, size)
            for one in (Heap(size, *rows), Derived(size, *rows), Heap(size)):
                for prime, other in itertools.permutations(reckon.primes(size), 2):
                    step = size // (prime * other)
                    for first in range(step)[:3]:
                        away = tuple((prime, first + k * step, -1) for k in range(other))
                        back = tuple((other, first + k * step, 1) for k in range(prime))
                        found = one.traded(prime, other, first)
                        self.is_one(found, size, together(size, (1, one.rows_now), (1, away), (1, back)))
                        self.same(found.voice_now, one.voice_now)
                        self.is_one(found.traded(other, prime, first), size, one.rows_now)

    def test_trades_that_lead_to_nothing_or_below(self):
        one = Heap(6, (2, 0, 1), (2, 1, 1), (2, 2, 1), (3, 0, -1), (3, 1, -1))
        self.is_one(one.traded(2, 3, 0), 6, ())
        self.is_one(Heap(6).traded(3, 2, 0), 6, ((2, 0, 1), (2, 1, 1), (2, 2, 1), (3, 0, -1), (3, 1, -1)))
        self.is_one(Heap(6, (2, 0, 5)).traded(2, 3, 0), 6, ((2, 0, 4), (2, 1, -1), (2, 2, -1), (3, 0, 1), (3, 1, 1)))

    def test_trades_refused(self):
        one = Heap(6, (2, 0, 1))
        for prime in NO_SIZES + (1, 4, 5, 6):
            self.refused("prime", one.traded, prime, None, None)
            self.refused("prime", one.traded, prime, 2, 0)
        for other in NO_SIZES + (1, 4, 5, 6, 2):
            self.refused("other", one.traded, 2, other, None)
        for first in (None, True, False, -1, 1, 2, "0", (0,), [0]):
            self.refused("first", one.traded, 2, 3, first)
        self.refused("first", Heap(30).traded, 2, 3, 5)
        self.refused("other", Heap(4).traded, 2, 3, 0)
        self.refused("prime", Heap(1).traded, 2, 3, 0)
        self.same(one.traded(first=0, other=3, prime=2).voice_now, PAIR)

    def test_trades_join_all_plain_heaps_of_a_voice(self):
        for voice, heaps in plain_heaps(6, 2).items():
            if max(voice) <= 2:
                seen = [Heap(6, *heaps[0])]
                for one in seen:
                    for prime, other in ((2, 3), (3, 2)):
                        found = one.traded(prime, other, 0)
                        if found.is_plain_now and found not in seen:
                            seen.append(found)
                self.assertEqual(sorted(one.rows_now for one in seen), sorted(heaps))

    def test_equality(self):
        one = Heap(6, (2, 0, 1))
        for other in (Heap(6, (2, 0, 1)), Derived(6, (2, 0, 1))):
            self.assertIs(one == other, True)
            self.assertIs(other == one, True)
            self.assertIs(one != other, False)
        for other in (Heap(6), Heap(12, (2, 0, 1)), Heap(6, (2, 0, 2)), Heap(6, (2, 1, 1)), ((2, 0, 1),), None, True,
                      PAIR, Voice(*PAIR), Heap(6, (2, 0, 1), (3, 0, 1))):
            self.assertIs(one == other, False)
            self.assertIs(one != other, True)
        self.assertIs(Heap(6) == Heap(12), False)

    def test_of(self):
        for voice in (PAIR, MIXED, (0,), (0,) * 6, (3, 3), (1, -2, 1, -2), (1,) * 30):
            self.is_one(Heap.of(voice), len(voice), signed_heap(voice))
            self.same(Heap.of(voice=voice).voice_now, voice)
        self.fails(Unsilent, {"rest": (1, 1)}, Heap.of, STEP)
        self.fails(Unsilent, {"rest": (4,)}, Heap.of, (4,))
        for thing in NO_VOICES + (Voice(0), Heap(6)):
            self.refused("voice", Heap.of, thing)

    def test_nothing_changes_it(self):
        one, other = Heap(6, (2, 0, 1), (3, 1, -2)), Heap(6, (3, 1, 2))
        before = shown((one, other))
        for _ in range(2):
            told = (list(one), one.voice_now, one.rows_now, one.is_plain_now, one.many_now, (one + other).rows_now,
                    (one - other).rows_now, one(5).rows_now, one.traded(2, 3, 0).rows_now, one[(2, 0)], (2, 0) in one,
                    one == other, len(one))
            self.assertEqual(shown((one, other)), before)
            self.refused("k", one, None)
            self.refused("other", lambda x: one + x, None)
            self.refused("prime", one.traded, None, 2, 3)
            self.assertEqual(shown((one, other)), before)
        self.same(told[2:6], (((2, 0, 1), (3, 1, -2)), False, -1, ((2, 0, 1),)))


if __name__ == "__main__":
    unittest.main()
