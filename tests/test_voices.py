"""[4], [9], [13], [18] and [22]: voices and what is made of them."""

import unittest

from silentbeats.polynomials import polynomial_of, rest_by, times
from silentbeats.voices import (
    added, beats_of, mirrored, multiplied, ones_of, power_of, product_of, total_of, turned, voice_of,
)
from tests.base import NO_INTEGERS, NO_NUMBERS, NO_SIZES, NO_VOICES, STEP, BeatTest, a_chance, no_voices_of, some_voice
from tests.reckon import around

NO_BEATS_OF_SIX = (
    True, None, 0, "", "0", [], [0], (6,), (-1,), (-1, 0), (1, 0), (0, 0), (0, 1, 1), (True,), (False, 1), (None,),
    ((0,),),
)


class Making(BeatTest):
    def test_voice_of(self):
        self.tells((1, 1, 0, 0, 0, 0), voice_of, 6, (0, 1))
        self.tells((0,), voice_of, 1, ())
        self.tells((1,), voice_of, 1, (0,))
        self.tells((0, 0, 0), voice_of, 3, ())
        self.tells((1, 0, 1), voice_of, 3, (0, 2))

    def test_voice_of_refuses(self):
        for size in NO_SIZES:
            self.refused("size", voice_of, size, ())
            self.refused("size", voice_of, size, None)
        for beats in NO_BEATS_OF_SIX:
            self.refused("beats", voice_of, 6, beats)
        self.refused("beats", voice_of, 1, (1,))

    def test_ones_of(self):
        self.tells((1,), ones_of, 1)
        self.tells((1, 1, 1), ones_of, 3)
        for size in NO_SIZES:
            self.refused("size", ones_of, size)

    def test_beats_and_total(self):
        self.tells((1, 3), beats_of, (0, -2, 0, 1))
        self.tells((), beats_of, (0, 0))
        self.tells((0, 1), beats_of, (5, 10 ** 59))
        self.tells(-1, total_of, (1, -2))
        self.tells(0, total_of, (0,))
        self.tells(2000, total_of, (1000, -1000, 2000))


class Reckoning(BeatTest):
    def test_added_and_multiplied(self):
        chance = a_chance(18)
        for size in range(1, 9):
            one, other, k = some_voice(chance, size), some_voice(chance, size), chance.randint(-5, 5)
            self.tells(tuple(one[j] + other[j] for j in range(size)), added, one, other)
            self.tells(tuple(one[j] * k for j in range(size)), multiplied, one, k)
        self.tells((0, 0), multiplied, (3, -1), 0)
        self.tells((-3, 1), multiplied, (3, -1), -1)

    def test_product(self):
        chance = a_chance(19)
        for size in range(1, 13):
            for _ in range(5):
                one, other = some_voice(chance, size), some_voice(chance, size)
                self.tells(around(one, other), product_of, one, other)
        self.tells((1, 1, 1, 1, 1, 1), product_of, STEP, (1, 0, 1, 0, 1, 0))
        self.tells((-6,), product_of, (2,), (-3,))

    def test_two_hundred_beats(self):
        one = tuple(1000 - k for k in range(200))
        self.same(product_of(one, voice_of(200, (199,))), one[1:] + one[:1])
        self.same(total_of(product_of(one, one)), sum(one) ** 2)

    def test_turned(self):
        chance = a_chance(20)
        for size in range(1, 8):
            voice = some_voice(chance, size)
            for k in range(-2 * size - 1, 2 * size + 2):
                weights = [None] * size
                for j, weight in enumerate(voice):
                    weights[(j + k) % size] = weight
                self.tells(tuple(weights), turned, voice, k)
        self.tells((2, 3, 1), turned, (1, 2, 3), -1)
        self.tells((2, 3, 1), turned, (1, 2, 3), -(10 ** 59))

    def test_mirrored(self):
        self.tells((1, 4, 3, 2), mirrored, (1, 2, 3, 4))
        self.tells((1, 3, 2), mirrored, (1, 2, 3))
        self.tells((5,), mirrored, (5,))
        self.tells((5, 6), mirrored, (5, 6))

    def test_power(self):
        chance = a_chance(21)
        for size in range(1, 6):
            voice = some_voice(chance, size)
            expected = (1,) + (0,) * (size - 1)
            for many in range(6):
                self.tells(expected, power_of, voice, many)
                expected = around(expected, voice)
        self.tells((1, 0, 0), power_of, (0, 0, 0), 0)
        self.tells((0, 0, 0), power_of, (0, 0, 0), 1)
        self.tells((7, 8, 9), power_of, (7, 8, 9), 1)
        self.tells((2 ** 30,), power_of, (2,), 30)
        self.tells((2 ** 29, 2 ** 29), power_of, (1, 1), 30)

    def test_one_voice_refused(self):
        for thing in NO_VOICES:
            for function in (beats_of, total_of, mirrored):
                self.refused("voice", function, thing)
            for function in (multiplied, turned, power_of):
                self.refused("voice", function, thing, 1)
                self.refused("voice", function, thing, None)

    def test_two_voices_refused(self):
        for function in (added, product_of):
            for thing in NO_VOICES:
                self.refused("one", function, thing, (1, 2))
                self.refused("one", function, thing, thing)
            for thing in no_voices_of(2):
                self.refused("other", function, (1, 2), thing)

    def test_integers_refused(self):
        for thing in NO_INTEGERS:
            self.refused("k", multiplied, (1, 2), thing)
            self.refused("k", turned, (1, 2), thing)
        for thing in NO_NUMBERS:
            self.refused("many", power_of, (1, 2), thing)


class Consequences(BeatTest):
    def test_products(self):
        chance = a_chance(22)
        for size in range(1, 11):
            one, two, three = (some_voice(chance, size) for _ in range(3))
            both = product_of(one, two)
            self.same(both, product_of(two, one))
            self.same(product_of(both, three), product_of(one, product_of(two, three)))
            self.same(total_of(both), total_of(one) * total_of(two))
            self.same(mirrored(both), product_of(mirrored(one), mirrored(two)))
            for k in range(size):
                self.same(product_of(one, voice_of(size, (k,))), turned(one, k))
            round_one = (-1,) + (0,) * (size - 1) + (1,)
            straight = times(polynomial_of(one), polynomial_of(two))
            self.same(rest_by(polynomial_of(both), round_one), rest_by(straight, round_one))


if __name__ == "__main__":
    unittest.main()
