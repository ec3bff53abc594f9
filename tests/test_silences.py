"""[5], [10], [12] and [23] to [26]: silences, rests, parts, and the voices silent at given divisors."""

import itertools
import unittest
from fractions import Fraction

from silentbeats.evens import fills_evenly
from silentbeats.silences import (
    alike_silent, is_silent, part_at, rest_at, silences_of, silent_basis, silent_from, silent_rank, silent_voice,
)
from silentbeats.voices import product_of, turned
from tests import reckon
from tests.base import NO_INTEGERS, NO_SIZES, PAIR, STEP, THIRDS, BeatTest, a_chance, no_voices_of, some_voice

SIZES = (1, 2, 3, 4, 5, 6, 8, 9, 10, 12, 15, 16, 18, 20, 24, 30, 36)


def sets_of(size):
    """All sets of divisors of the size."""
    divisors = reckon.divisors(size)
    return [found for many in range(len(divisors) + 1) for found in itertools.combinations(divisors, many)]


def thin_voice(chance, size):
    """A voice that is silent at some divisors as often as not."""
    voice = some_voice(chance, size, -2, 2)
    for divisor in reckon.divisors(size):
        if chance.random() < 0.4:
            by = reckon.wheel(divisor)
            if len(by) > size:
                by = [0] * size
            voice = reckon.around(voice, tuple(by) + (0,) * (size - len(by)))
    return voice


class Reading(BeatTest):
    def test_the_voices_of_the_examples(self):
        self.tells((2, 6), silences_of, PAIR)
        self.tells((3, 6), silences_of, THIRDS)
        self.tells((2,), silences_of, STEP)
        self.same(reckon.around(STEP, THIRDS), (1, 1, 1, 1, 1, 1))

    def test_against_divisions(self):
        chance = a_chance(24)
        for size in SIZES:
            for _ in range(4):
                voice = thin_voice(chance, size)
                self.tells(reckon.silences(voice), silences_of, voice)
                for divisor in reckon.divisors(size):
                    rest = reckon.rest(voice, divisor)
                    self.tells(tuple(int(weight) for weight in rest), rest_at, voice, divisor)
                    self.tells(not any(rest), is_silent, voice, divisor)

    def test_edges(self):
        self.tells((1,), silences_of, (0,))
        self.tells((), silences_of, (7,))
        self.tells((1, 2, 3, 4, 6, 12), silences_of, (0,) * 12)
        self.tells((2, 3, 4, 6, 12), silences_of, (-5,) * 12)
        self.tells((), silences_of, (1,) + (0,) * 11)
        self.tells((7,), rest_at, (7,), 1)
        self.tells((0,), rest_at, (0,), 1)
        self.tells((0, 0), rest_at, PAIR, 6)
        self.tells((3,), rest_at, THIRDS, 1)
        self.tells((2001,), rest_at, (1000, 1, 1000), 1)

    def test_divisors_refused(self):
        for function in (is_silent, rest_at, part_at):
            for thing in NO_SIZES + (4, 5, 12, 7, 10 ** 59, (2,), "2"):
                self.refused("divisor", function, STEP, thing)
            self.refused("divisor", function, (1,), 2)

    def test_alike(self):
        self.tells(True, alike_silent, STEP, (0, 3, 3, 0, 0, 0))
        self.tells(False, alike_silent, STEP, PAIR)
        self.tells(False, alike_silent, PAIR, (0,) * 6)
        self.tells(True, alike_silent, (0,), (0,))
        for thing in no_voices_of(6):
            self.refused("other", alike_silent, STEP, thing)


class Parts(BeatTest):
    def test_what_a_part_is(self):
        chance = a_chance(25)
        for size in (1, 2, 3, 4, 6, 8, 9, 12, 15, 18, 30):
            for voice in (some_voice(chance, size), thin_voice(chance, size)):
                parts = {divisor: part_at(voice, divisor) for divisor in reckon.divisors(size)}
                for divisor, part in parts.items():
                    self.check_part(voice, divisor, part)
                whole = [sum(column) for column in zip(*[reckon.fractions(part) for part in parts.values()])]
                self.assertEqual(tuple(whole), voice)

    def check_part(self, voice, divisor, part):
        numbers = reckon.fractions(part)
        self.same(part, reckon.pairs(numbers))
        left = [weight - number for weight, number in zip(voice, numbers)]
        for other in reckon.divisors(len(voice)):
            self.assertFalse(any(reckon.rest(left if other == divisor else numbers, other)))
        self.assertEqual(any(numbers), not reckon.silent(voice, divisor))

    def test_examples_beside(self):
        self.tells(((1, 3),) * 6, part_at, STEP, 1)
        self.tells(((0, 1),) * 6, part_at, STEP, 2)
        self.tells(((5, 1),), part_at, (5,), 1)

    def test_part_of_a_product(self):
        chance = a_chance(26)
        for size in (1, 4, 6, 12):
            one, other = some_voice(chance, size), thin_voice(chance, size)
            for divisor in reckon.divisors(size):
                both = reckon.around(
                    reckon.fractions(part_at(one, divisor)), reckon.fractions(part_at(other, divisor)))
                self.same(part_at(product_of(one, other), divisor), reckon.pairs(both))


class SilentVoices(BeatTest):
    def test_ranks(self):
        for size in SIZES:
            for divisors in sets_of(size)[:40]:
                expected = size - sum(len(reckon.wheel(divisor)) - 1 for divisor in divisors)
                self.tells(expected, silent_rank, size, divisors)
        self.tells(36, silent_rank, 36, ())
        self.tells(0, silent_rank, 36, tuple(reckon.divisors(36)))
        self.tells(10 ** 59, silent_rank, 10 ** 59, ())

    def test_bases(self):
        for size in (1, 2, 3, 4, 6, 8, 12):
            for divisors in sets_of(size):
                basis = silent_basis(size, divisors)
                rank = silent_rank(size, divisors)
                self.assertEqual((type(basis), len(basis)), (tuple, rank))
                for k, voice in enumerate(basis):
                    self.assertEqual((type(voice), len(voice)), (tuple, size))
                    self.same(voice[:rank], tuple(int(beat == k) for beat in range(rank)))
                    self.assertTrue(all(reckon.silent(voice, divisor) for divisor in divisors))

    def test_no_divisors_and_all(self):
        self.tells(((1, 0, 0), (0, 1, 0), (0, 0, 1)), silent_basis, 3, ())
        self.tells((), silent_basis, 3, (1, 3))
        self.tells(((1,),), silent_basis, 1, ())
        self.tells((), silent_basis, 1, (1,))
        self.tells((5, 6, 7), silent_from, 3, (), (5, 6, 7))
        self.tells((0, 0, 0), silent_from, 3, (1, 3), ())
        self.tells((0,), silent_from, 1, (1,), ())
        self.tells((1, 1, 1), silent_from, 3, (3,), (1,))
        self.tells((4, -4), silent_from, 2, (1,), (4,))

    def test_from_weights(self):
        chance = a_chance(27)
        for size in (1, 2, 4, 6, 12, 30, 36):
            for divisors in sets_of(size)[::7]:
                rank = silent_rank(size, divisors)
                weights = some_voice(chance, rank, -1000, 1000)
                voice = silent_from(size, divisors, weights)
                self.tells(voice, silent_from, size, divisors, weights)
                self.same((voice[:rank], len(voice)), (weights, size))
                self.assertTrue(all(reckon.silent(voice, divisor) for divisor in divisors))
                basis = silent_basis(size, divisors)
                made = tuple(sum(w * row[k] for w, row in zip(weights, basis)) for k in range(size))
                self.same(voice, made)

    def test_voices_with_just_these_silences(self):
        for size in SIZES:
            for divisors in sets_of(size)[::5]:
                voice = silent_voice(size, divisors)
                self.assertEqual((type(voice), len(voice)), (tuple, size))
                self.tells(voice, silent_voice, size, divisors)
                self.same(reckon.silences(voice), divisors)
        self.tells((0,) * 12, silent_voice, 12, (1, 2, 3, 4, 6, 12))
        self.tells((0,), silent_voice, 1, (1,))

    def test_refused(self):
        functions = (silent_rank, silent_basis, silent_voice, lambda s, d: silent_from(s, d, ()))
        for function in functions:
            for size in NO_SIZES:
                self.refused("size", function, size, ())
                self.refused("size", function, size, None)
            for thing in (True, None, 0, 2, "", "2", [], [2], (0,), (4,), (-1,), (-2, 1), (2, 1), (2, 2), (1, True),
                          (True,), (None,), (1, 2, 12), ((2,),), ("2",)):
                self.refused("divisors", function, 6, thing)
            self.refused("divisors", function, 1, (2,))

    def test_weights_refused(self):
        for thing in NO_INTEGERS + (0, 5, (1, 2, 3), (1, True), [1, 2], (None, 1), (1, "2")):
            self.refused("weights", silent_from, 6, (3, 6), thing)
        self.refused("weights", silent_from, 6, (1, 2, 3, 6), (0,))
        self.refused("weights", silent_from, 6, (1, 2, 3, 6), [])
        self.refused("size", silent_from, 0, (7,), None)
        self.refused("divisors", silent_from, 6, (7,), None)


class Consequences(BeatTest):
    def test_products_and_turns(self):
        chance = a_chance(28)
        for size in (1, 2, 6, 8, 12, 18, 36):
            for _ in range(3):
                one, other = thin_voice(chance, size), thin_voice(chance, size)
                either = sorted(set(silences_of(one)) | set(silences_of(other)))
                self.same(silences_of(product_of(one, other)), tuple(either))
                self.same(silences_of(turned(one, chance.randint(-50, 50))), silences_of(one))
                bars = [d for d in reckon.divisors(size)[1:] if d not in either]
                self.assertIs(fills_evenly(one, other), bars == [])
                self.assertIs(one == (0,) * size, silences_of(one) == tuple(reckon.divisors(size)))

    def test_sums_of_the_basis(self):
        chance = a_chance(29)
        for size in (2, 6, 12):
            voice = thin_voice(chance, size)
            basis = silent_basis(size, silences_of(voice))
            made = tuple(sum(weight * row[k] for weight, row in zip(voice, basis)) for k in range(size))
            self.same(made, voice)

    def test_voices_of_quotients(self):
        part = reckon.fractions(part_at((3, 1, 4, 1, 5, 9), 3))
        basis = silent_basis(6, (1, 2, 6))
        made = tuple(sum((number * row[k] for number, row in zip(part, basis)), Fraction(0)) for k in range(6))
        self.assertEqual(made, part)


if __name__ == "__main__":
    unittest.main()
