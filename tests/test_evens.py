"""[6], [10], [23] and [27]: even voices, and what fills evenly."""

import itertools
import unittest

from silentbeats.evens import bar_at, even_weight, fills_evenly, is_even
from tests import reckon
from tests.base import ALL, PAIR, STEP, THIRDS, BeatTest, a_chance, no_voices_of, some_voice


class Evens(BeatTest):
    def test_is_even(self):
        for voice in ((0,), (7,), (-3, -3), (0, 0, 0), (1000,) * 36):
            self.tells(True, is_even, voice)
        for voice in ((0, 1), (1, 1, 1, 0), (-1, 1), (2, 1, 1)):
            self.tells(False, is_even, voice)

    def check_pair(self, one, other):
        both = reckon.around(one, other)
        even = len(set(both)) == 1
        self.tells(even, fills_evenly, one, other)
        self.tells(both[0] if even else None, even_weight, one, other)
        bars = [d for d in reckon.divisors(len(one))[1:]
                if not reckon.silent(one, d) and not reckon.silent(other, d)]
        self.tells(bars[0] if bars else None, bar_at, one, other)
        self.assertIs(even, bars == [])
        if even:
            self.assertEqual(len(one) * both[0], sum(one) * sum(other))

    def test_all_strokes(self):
        for size in (1, 2, 3, 4):
            voices = list(itertools.product((0, 1), repeat=size))
            for one, other in itertools.product(voices, voices):
                self.check_pair(one, other)

    def test_ordinary_pairs(self):
        chance = a_chance(270)
        for size in (5, 6, 8, 9, 12):
            for _ in range(6):
                self.check_pair(some_voice(chance, size), some_voice(chance, size))
        self.check_pair(STEP, THIRDS)
        self.check_pair(PAIR, STEP)
        self.check_pair(PAIR, THIRDS)
        self.check_pair(ALL, (3, 1, -2, 0, 0, 5))
        self.check_pair((1, 1, 0, 0, 1, 1, 0, 0), (1, 0, 1, 0, 0, 0, 0, 0))
        self.check_pair((1, 0, 0, 0) * 9, (1, 1, 1, 1) + (0,) * 32)

    def test_edges(self):
        self.tells(True, fills_evenly, (5,), (-7,))
        self.tells(-35, even_weight, (5,), (-7,))
        self.tells(None, bar_at, (5,), (-7,))
        self.tells(0, even_weight, (0, 0, 0), (1, 2, 3))
        self.tells(None, bar_at, (0, 0, 0), (1, 2, 3))
        self.tells(2, bar_at, (1, 0), (1, 0))

    def test_refused(self):
        for function in (fills_evenly, even_weight, bar_at):
            for thing in no_voices_of(6):
                self.refused("other", function, STEP, thing)
            for thing in no_voices_of(1):
                self.refused("other", function, (1,), thing)


if __name__ == "__main__":
    unittest.main()
