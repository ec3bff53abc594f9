"""[7], [43] to [46]: polygons, and heaps with many below 0."""

import itertools
import unittest

from silentbeats.errors import Unsilent
from silentbeats.polygons import heap_voice, is_sum, polygon, polygons_of
from silentbeats.signed import signed_heap
from silentbeats.silences import silent_voice
from silentbeats.voiceclasses import Voice
from tests import reckon
from tests.base import NO_SIZES, PAIR, STEP, THIRDS, BeatTest, a_chance, some_voice

MIXED = (0, 0, 1, -1, 1, 0)
SIZES = (1, 2, 3, 4, 5, 6, 7, 8, 9, 10, 12, 15, 16, 18, 20, 24, 30, 36, 42, 60, 70, 84, 90, 105, 108, 110)
NO_ROWS_OF_SIX = (
    None, True, 0, 1, "", "2", [], [(2, 0, 1)], (2, 0, 1), (None,), ((),), ((2, 0),), ((2, 0, 1, 1),), ([2, 0, 1],),
    ((2, 0, 0),), ((2, 3, 1),), ((2, -1, 1),), ((3, 2, 1),), ((4, 0, 1),), ((5, 0, 1),), ((6, 0, 1),), ((1, 0, 1),),
    ((0, 0, 1),), ((-2, 0, 1),), ((2, True, 1),), ((2, 0, True),), ((True, 0, 1),), ((2, None, 1),), ((2, 0, None),),
    ((2, 0, "1"),), (("2", 0, 1),), (((2, 0), 1, 1),), ((2, 1, 1), (2, 0, 1)), ((3, 0, 1), (2, 0, 1)),
    ((2, 0, 1), (2, 0, 1)), ((2, 0, 1), (2, 0, 2)), ((2, 0, 1), None), ((2, 0, 1), (2, 1, 0)),
)


def some_rows(chance, size, low=-3, high=3):
    """A heap drawn by chance."""
    manys = [chance.choice((0, chance.randint(low, high))) for _ in reckon.polygons(size)]
    return tuple((p, first, many) for (p, first), many in zip(reckon.polygons(size), manys) if many != 0)


class Polygons(BeatTest):
    def test_all_of_them(self):
        for size in SIZES:
            self.tells(tuple(reckon.polygons(size)), polygons_of, size)
            for prime, first in reckon.polygons(size)[::3]:
                self.tells(reckon.heap(size, ((prime, first, 1),)), polygon, size, prime, first)
        self.tells((), polygons_of, 1)
        self.tells(PAIR, polygon, 6, 2, 0)
        self.tells(THIRDS, polygon, 6, 3, 0)
        self.tells((1, 1), polygon, 2, 2, 0)

    def test_refused(self):
        for size in NO_SIZES:
            self.refused("size", polygons_of, size)
            self.refused("size", polygon, size, None, None)
            self.refused("size", heap_voice, size, None)
            self.refused("size", is_sum, size, None, None)
        for prime in NO_SIZES + (1, 4, 5, 6, 7, 12):
            self.refused("prime", polygon, 6, prime, None)
        for prime in (2, 3, 1, 4):
            self.refused("prime", polygon, 1, prime, 0)
            self.refused("prime", polygon, 5, prime, 0)
        for first in NO_SIZES[:-1] + (3, 6):
            if first != 0:
                self.refused("first", polygon, 6, 2, first)
        self.refused("first", polygon, 6, 3, 2)
        self.refused("first", polygon, 2, 2, 1)

    def test_voices_of_heaps(self):
        chance = a_chance(440)
        for size in SIZES:
            self.tells((0,) * size, heap_voice, size, ())
            for _ in range(3):
                rows = some_rows(chance, size)
                self.tells(reckon.heap(size, rows), heap_voice, size, rows)
        self.tells((10 ** 50, 10 ** 50), heap_voice, 2, ((2, 0, 10 ** 50),))
        self.same(heap_voice(rows=((2, 0, -1),), size=2), (-1, -1))

    def test_rows_refused(self):
        for rows in NO_ROWS_OF_SIX:
            self.refused("rows", heap_voice, 6, rows)
        for rows in (((2, 0, 1),), ((1, 0, 1),)):
            self.refused("rows", heap_voice, 1, rows)
        self.refused("rows", heap_voice, 4, ((3, 0, 1),))
        self.refused("rows", heap_voice, 9, ((2, 0, 1),))

    def test_is_sum(self):
        chance = a_chance(441)
        for size in SIZES:
            rows = some_rows(chance, size)
            voice = reckon.heap(size, rows)
            self.tells(True, is_sum, size, rows, voice)
            for beat in (0, size - 1):
                wrong = voice[:beat] + (voice[beat] + 1,) + voice[beat + 1:]
                self.tells(False, is_sum, size, rows, wrong)
        for rows in NO_ROWS_OF_SIX:
            self.tells(False, is_sum, 6, rows, (0,) * 6)
            self.tells(False, is_sum, 6, rows, PAIR)
        for voice in (None, True, 0, "", (), [], list(PAIR), PAIR[:5], PAIR + (0,), (True, 0, 0, True, 0, 0), Voice(*PAIR)):
            self.tells(False, is_sum, 6, ((2, 0, 1),), voice)
        self.tells(False, is_sum, 6, (), (0, 0, 0, 0, 0, False))
        self.tells(True, is_sum, 6, (), (0,) * 6)
        self.tells(False, is_sum, 2, (), (0,) * 6)
        self.tells(True, is_sum, 1, (), (0,))
        self.tells(False, is_sum, 1, (), (1,))
        self.same(is_sum(voice=MIXED, thing=((2, 0, -1), (3, 0, 1)), size=6), True)


class Signed(BeatTest):
    def check_signed(self, voice):
        size = len(voice)
        if reckon.silent(voice, size):
            rows = signed_heap(voice)
            self.tells(rows, signed_heap, voice)
            self.tells(True, is_sum, size, rows, voice)
            self.same(reckon.heap(size, rows), voice)
        else:
            rest = tuple(int(k) for k in reckon.rest(voice, size))
            self.fails(Unsilent, {"rest": rest}, signed_heap, voice)

    def test_heaps_told_back(self):
        chance = a_chance(450)
        for size in SIZES:
            for _ in range(3):
                self.check_signed(reckon.heap(size, some_rows(chance, size)))
            self.check_signed(reckon.heap(size, some_rows(chance, size, -200, 200)))
            self.check_signed(some_voice(chance, size))

    def test_all_voices_of_small_clocks(self):
        for size, weights in ((1, range(-3, 4)), (2, range(-3, 4)), (3, (-1, 0, 2)), (4, (-1, 0, 1)), (6, (-1, 0, 1))):
            for voice in itertools.product(weights, repeat=size):
                self.check_signed(voice)

    def test_multiples_of_the_wheel(self):
        """Voices that are silent at the size, made without a heap."""
        chance = a_chance(451)
        for size in (6, 12, 30, 36, 42, 60, 105):
            self.check_signed(reckon.around(silent_voice(size, (size,)), some_voice(chance, size)))

    def test_edges(self):
        self.tells((), signed_heap, (0,))
        self.fails(Unsilent, {"rest": (5,)}, signed_heap, (5,))
        self.fails(Unsilent, {"rest": (-5,)}, signed_heap, (-5,))
        self.tells(((2, 0, -7),), signed_heap, (-7, -7))
        self.fails(Unsilent, {"rest": (1,)}, signed_heap, (0, -1))
        self.fails(Unsilent, {"rest": (1, 1)}, signed_heap, STEP)
        self.check_signed((1,) * 110)
        self.check_signed((1000, -1000) * 15)


class Consequences(BeatTest):
    def test_where_polygons_are_silent(self):
        for size in (2, 4, 6, 9, 12, 30):
            for prime, first in polygons_of(size):
                expected = tuple(d for d in reckon.divisors(size) if (size // prime) % d != 0)
                self.same(reckon.silences(polygon(size, prime, first)), expected)

    def test_totals(self):
        chance = a_chance(460)
        for size in (4, 6, 12, 30):
            rows = some_rows(chance, size)
            self.same(sum(heap_voice(size, rows)), sum(prime * many for prime, _, many in rows))

    def test_all_of_one_prime(self):
        for size in (2, 6, 12, 30):
            for prime in reckon.primes(size):
                rows = tuple((prime, first, 1) for first in range(size // prime))
                self.same(heap_voice(size, rows), (1,) * size)


if __name__ == "__main__":
    unittest.main()
