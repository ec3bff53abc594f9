"""[77]: the factors of x ** size - 1 modulo a prime, and the parts of states."""

import itertools
import unittest
from functools import lru_cache

from silentbeats.factors import factors_of, state_from, state_parts
from tests.base import NO_PRIMES, NO_SIZES, BeatTest, a_chance, no_states, some_voice
from tests.test_machines import PRIMES, around_by, divides, rest_modulo


def product_modulo(one, other, prime):
    weights = [0] * (len(one) + len(other) - 1)
    for j, a in enumerate(one):
        for k, b in enumerate(other):
            weights[j + k] = (weights[j + k] + a * b) % prime
    return tuple(weights)


def power_modulo(one, many, prime):
    reached = (1,)
    for _ in range(many):
        reached = product_modulo(reached, one, prime)
    return reached


@lru_cache(maxsize=None)
def simple_ones(degree, prime):
    """All polynomials of this degree, of last digit 1, that are no products of lesser ones."""
    found = []
    for weights in itertools.product(range(prime), repeat=degree):
        one = weights + (1,)
        lesser = [by for less in range(1, degree // 2 + 1) for by in simple_ones(less, prime)]
        if not any(divides(by, one, prime) for by in lesser):
            found.append(one)
    return found


def degrees_told(size, prime):
    """The degrees of the factors: how long times the prime leads round, for each beat of the part it divides not."""
    while size % prime == 0:
        size //= prime
    degrees, left = [], set(range(size))
    while left:
        beat, many = min(left), 0
        while beat in left:
            left.remove(beat)
            beat, many = beat * prime % size, many + 1
        degrees.append(many)
    return sorted(degrees)


class Factors(BeatTest):
    def test_small_ones_by_division(self):
        for prime, most in ((2, 6), (3, 4), (5, 2), (7, 2), (11, 1), (13, 1)):
            for size in range(1, 13):
                if max(degrees_told(size, prime)) <= most:
                    self.tells(self.divided(size, prime), factors_of, size, prime)

    def divided(self, size, prime):
        """The factors with how often they are ones, by division by all polynomials of lesser degrees."""
        found = []
        for degree in range(1, size + 1):
            if degree <= max(degrees_told(size, prime)):
                for factor in simple_ones(degree, prime):
                    often = 0
                    while divides(power_modulo(factor, often + 1, prime), around_by(size, prime), prime):
                        often += 1
                    if often:
                        found.append((factor, often))
        return tuple(sorted(found))

    def test_all_clocks(self):
        for size in range(1, 37):
            for prime in PRIMES:
                pairs = factors_of(size, prime)
                self.same(pairs, tuple(sorted(set(pairs))))
                self.same(sorted(len(factor) - 1 for factor, _ in pairs), degrees_told(size, prime))
                product = (1,)
                for factor, often in pairs:
                    self.assertEqual(factor[-1], 1)
                    self.assertTrue(size % often == 0 and size // often % prime != 0)
                    product = product_modulo(product, power_modulo(factor, often, prime), prime)
                self.same(product, around_by(size, prime))

    def test_by_hand(self):
        self.tells((((6, 1), 1),), factors_of, 1, 7)
        self.tells((((1, 1), 1),), factors_of, 1, 2)
        self.tells((((1, 1), 16),), factors_of, 16, 2)
        self.tells((((2, 1), 27),), factors_of, 27, 3)
        self.tells(tuple(((k, 1), 1) for k in range(1, 13)), factors_of, 12, 13)
        self.tells((((1, 0, 1, 1), 1), ((1, 1), 1), ((1, 1, 0, 1), 1)), factors_of, 7, 2)

    def test_refused(self):
        for call, more in ((factors_of, ()), (state_parts, (None,)), (state_from, (None,))):
            for size in NO_SIZES:
                self.refused("size", call, size, None, *more)
            for prime in NO_PRIMES:
                self.refused("prime", call, 6, prime, *more)
        self.same(factors_of(prime=2, size=1), (((1, 1), 1),))


class Parts(BeatTest):
    def test_all_states_of_small_machines(self):
        for size, prime in ((1, 2), (2, 2), (3, 2), (4, 2), (6, 2), (7, 2), (2, 3), (3, 3), (4, 3), (2, 5), (2, 7), (1, 13)):
            powers = [power_modulo(factor, often, prime) for factor, often in factors_of(size, prime)]
            seen = set()
            for state in itertools.product(range(prime), repeat=size):
                parts = state_parts(size, prime, state)
                seen.add(parts)
                told = tuple(tuple((rest_modulo(state, power, prime) + [0] * size)[:len(power) - 1]) for power in powers)
                self.tells(told, state_parts, size, prime, state)
                self.tells(state, state_from, size, prime, parts)
            self.assertEqual(len(seen), prime ** size)

    def test_great_clocks(self):
        chance = a_chance(770)
        for size in (12, 16, 24, 30, 35, 36):
            for prime in PRIMES:
                state = some_voice(chance, size, 0, prime - 1)
                parts = state_parts(size, prime, state)
                self.assertEqual(sum(len(part) for part in parts), size)
                self.tells(state, state_from, size, prime, parts)
                drawn = tuple(some_voice(chance, len(part), 0, prime - 1) for part in parts)
                self.same(state_parts(size, prime, state_from(size, prime, drawn)), drawn)

    def test_refused(self):
        for thing in no_states(6, 2):
            self.refused("state", state_parts, 6, 2, thing)
        right = ((0, 1), (1, 0, 1, 0))
        self.tells((1, 1, 1, 1, 0, 1), state_from, 6, 2, right)
        for thing in (
            None, True, 0, "", (), [], list(right), right[:1], right[::-1], right + ((),), ((0, 1), (1, 0, 1)),
            ((0, 1), (1, 0, 1, 0, 0)), ((0, 2), (1, 0, 1, 0)), ((0, 1), (1, 0, 1, -1)), ((0, True), (1, 0, 1, 0)),
            ([0, 1], (1, 0, 1, 0)), ((0, 1), None), ((0, 1), (1, 0, 1, (0,))), ((), ()), (0, 1), ("01", "1010"),
        ):
            self.refused("parts", state_from, 6, 2, thing)
        self.same(state_parts(state=(1, 0), prime=2, size=2), ((1, 0),))
        self.same(state_from(parts=((1, 0),), prime=2, size=2), (1, 0))


if __name__ == "__main__":
    unittest.main()
