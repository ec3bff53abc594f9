"""[23], [30] and [31]: folded, spread, repeated and stretched voices, and joined clocks."""

import math
import unittest

from silentbeats.folds import folded, period_of, repeated, spread, stretched, stretches_of
from silentbeats.joins import as_table, from_table, joined
from silentbeats.silences import is_silent, silent_voice
from tests import reckon
from tests.base import NO_INTEGERS, NO_SIZES, NO_VOICES, PAIR, STEP, BeatTest, a_chance, some_voice


def some_silent_voice(chance, size):
    """A voice that is silent at some divisors, drawn by chance."""
    divisors = tuple(d for d in reckon.divisors(size) if chance.random() < 0.5)
    return reckon.around(silent_voice(size, divisors), some_voice(chance, size))


class Folding(BeatTest):
    def test_folded(self):
        chance = a_chance(30)
        for size in (1, 2, 6, 12, 36):
            voice = some_voice(chance, size)
            for divisor in reckon.divisors(size):
                sums = [0] * divisor
                for beat, weight in enumerate(voice):
                    sums[beat % divisor] += weight
                self.tells(tuple(sums), folded, voice, divisor)
                for d in reckon.divisors(divisor):
                    self.assertIs(is_silent(folded(voice, divisor), d), reckon.silent(voice, d))
        for thing in NO_SIZES + (4, 5, 12, 10 ** 59, (2,)):
            self.refused("size", folded, STEP, thing)

    def test_spread(self):
        chance = a_chance(31)
        for size in (1, 2, 3, 6):
            for step in (1, 2, 3, 6):
                voice = some_silent_voice(chance, size)
                expected = [0] * (size * step)
                for beat, weight in enumerate(voice):
                    expected[beat * step] = weight
                self.tells(tuple(expected), spread, voice, size * step)
                for d in reckon.divisors(size * step):
                    at = d // math.gcd(d, step)
                    self.assertIs(is_silent(spread(voice, size * step), d), reckon.silent(voice, at))

    def test_repeated(self):
        chance = a_chance(32)
        for size in (1, 2, 3, 6):
            for times in (1, 2, 3, 6):
                voice = some_silent_voice(chance, size)
                expected = tuple(voice[beat % size] for beat in range(size * times))
                self.tells(expected, repeated, voice, size * times)
                for d in reckon.divisors(size * times):
                    silent = size % d != 0 or reckon.silent(voice, d)
                    self.assertIs(is_silent(repeated(voice, size * times), d), silent)

    def test_multiples_refused(self):
        for function in (spread, repeated):
            for thing in NO_SIZES + (1, 2, 3, 4, 5, 7, 9, 10 ** 59, -6, -12, (6,)):
                self.refused("size", function, STEP, thing)
            self.tells(STEP, function, STEP, 6)
            self.tells((5,), function, (5,), 1)

    def test_period(self):
        chance = a_chance(33)
        for size in (1, 2, 4, 6, 12, 36):
            for part in reckon.divisors(size):
                voice = some_voice(chance, part, 0, 2) * (size // part)
                steps = [k for k in range(1, size + 1) if voice[size - k:] + voice[:size - k] == voice]
                self.tells(steps[0], period_of, voice)
                sounding = [d for d in reckon.divisors(size) if not reckon.silent(voice, d)]
                self.assertEqual(period_of(voice), math.lcm(*sounding))
        self.tells(1, period_of, (0, 0, 0))
        self.tells(1, period_of, (4,))
        self.tells(3, period_of, PAIR)
        self.tells(5, period_of, (1, 0, 0, 0, 0))

    def test_stretched(self):
        chance = a_chance(34)
        for size in (1, 2, 5, 6, 12):
            for _ in range(3):
                voice = some_silent_voice(chance, size)
                for k in [*range(-size - 1, size + 2), 10 ** 20]:
                    expected = [0] * size
                    for beat, weight in enumerate(voice):
                        expected[beat * k % size] += weight
                    self.tells(tuple(expected), stretched, voice, k)
                    for d in reckon.divisors(size):
                        at = d // math.gcd(d, k)
                        self.assertIs(is_silent(tuple(expected), d), reckon.silent(voice, at))
        self.tells((2, 0, 0, 0, 0, 0), stretched, STEP, 0)
        self.tells((1, 0, 0, 0, 0, 1), stretched, STEP, -1)
        for thing in NO_INTEGERS:
            self.refused("k", stretched, STEP, thing)

    def test_stretches(self):
        chance = a_chance(35)
        for size in range(1, 13):
            voices = [some_voice(chance, size, 0, 1) for _ in range(3)] + [(1,) * size, (1,) + (0,) * (size - 1)]
            for voice in voices:
                expected = [
                    k for k in range(1, size + 1)
                    if math.gcd(k, size) == 1 and all(voice[b * k % size] == voice[b] for b in range(size))
                ]
                self.tells(tuple(expected), stretches_of, voice)
        self.tells((1,), stretches_of, (9,))
        self.tells((1,), stretches_of, (9, 0))
        self.tells((1, 2, 4), stretches_of, (0, 1, 1, 0, 1, 0, 0))


class Tables(BeatTest):
    def test_tables(self):
        chance = a_chance(36)
        for size, other in ((1, 1), (1, 5), (5, 1), (2, 3), (3, 2), (4, 9), (9, 4), (3, 10), (12, 1)):
            voice = some_voice(chance, size * other)
            rows = [[None] * other for _ in range(size)]
            for beat, weight in enumerate(voice):
                rows[beat % size][beat % other] = weight
            table = tuple(tuple(row) for row in rows)
            self.tells(table, as_table, voice, size)
            self.tells(voice, from_table, table)

    def test_sizes_refused(self):
        voice = tuple(range(12))
        for thing in NO_SIZES + (2, 6, 5, 8, 24, -3, (3,)):
            self.refused("size", as_table, voice, thing)
        self.tells((voice,), as_table, voice, 1)
        self.tells(tuple((weight,) for weight in voice), as_table, voice, 12)

    def test_tables_refused(self):
        for thing in NO_VOICES + ((1, 2), ((),), ((), ()), ((1,), ()), ((1, 2), (3, 4)), ((1, 2, 3), (4, 5)),
                                  ([1, 2, 3], [4, 5, 6]), [(1, 2, 3), (4, 5, 6)], ((1, 2, 3), (4, 5, True)),
                                  ((1, 2, 3), [4, 5, 6]), ((1, 2, 3), None), ((True,),), (((1,),),),
                                  ((1, 2), (3, 4), (5, 6), (7, 8)), ((1,), 2), (1, (2,))):
            if thing != ((1,),):
                self.refused("table", from_table, thing)
        self.tells((1,), from_table, ((1,),))
        self.tells((1, 2), from_table, ((1, 2),))
        self.tells((1, 2), from_table, ((1,), (2,)))

    def test_joined(self):
        chance = a_chance(37)
        for size, other in ((1, 1), (1, 4), (4, 1), (2, 3), (3, 2), (4, 9), (5, 6)):
            one, two = some_silent_voice(chance, size), some_silent_voice(chance, other)
            expected = tuple(one[k % size] * two[k % other] for k in range(size * other))
            self.tells(expected, joined, one, two)
            for d in reckon.divisors(size * other):
                silent = reckon.silent(one, math.gcd(d, size)) or reckon.silent(two, math.gcd(d, other))
                self.assertIs(is_silent(expected, d), silent)

    def test_joined_refused(self):
        for thing in NO_VOICES + ((1, 2), (1, 2, 3), (1,) * 4, (1,) * 9):
            self.refused("other", joined, PAIR, thing)
        self.tells(PAIR, joined, PAIR, (1,))
        self.tells((6,), joined, (2,), (3,))


if __name__ == "__main__":
    unittest.main()
