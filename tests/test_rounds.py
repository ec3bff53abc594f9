"""[78] to [80]: how long machines go on until they are on rounds, and how long the rounds are."""

import unittest
from math import lcm

from silentbeats.factors import factors_of, state_parts
from silentbeats.machines import after, common_factor, dying_rank, goes_back
from silentbeats.rounds import round_of, rounds_of, state_round, state_tail, tail_of
from tests import reckon
from tests.base import NO_PRIMES, STEP, BeatTest, a_chance, no_states, some_voice
from tests.small_machines import wheels
from tests.test_factors import power_modulo
from tests.test_machines import PRIMES, divides


def some_machines(seed, sizes):
    """Voices and primes on great clocks, some of them sharing a factor with the clock."""
    chance = a_chance(seed)
    for size in sizes:
        for prime in PRIMES:
            yield some_voice(chance, size, -1000, 1000), prime
            wheel = reckon.wheel(chance.choice(reckon.divisors(size)))
            if len(wheel) <= size:
                yield reckon.around(wheel + (0,) * (size - len(wheel)), some_voice(chance, size)), prime


class Rounds(BeatTest):
    def test_all_states_of_small_machines(self):
        for wheel in wheels():
            voice, prime = wheel.voice, wheel.prime
            self.tells(max(wheel.tails.values()), tail_of, voice, prime)
            self.tells(lcm(*wheel.rounds.values()), round_of, voice, prime)
            for state in wheel.some(a_chance(780)):
                self.tells(wheel.tails[state], state_tail, voice, prime, state)
                self.tells(wheel.rounds[state], state_round, voice, prime, state)
            counts = {}
            for state in wheel.states:
                if wheel.tails[state] == 0:
                    counts[wheel.rounds[state]] = counts.get(wheel.rounds[state], 0) + 1
            told = sorted((length, states // length) for length, states in counts.items())
            self.tells(tuple(told), rounds_of, voice, prime)

    def test_by_hand(self):
        self.tells(((1, 1), (3, 1), (6, 2)), rounds_of, STEP, 2)
        for prime in PRIMES:
            # Noughts: all states die at once. One stroke turns all states round.
            self.tells(1, tail_of, (0,) * 16, prime)
            self.tells(1, round_of, (prime,) * 16, prime)
            self.tells(((1, 1),), rounds_of, (0,) * 16, prime)
            self.tells(0, tail_of, (0, 1) + (0,) * 14, prime)
            self.tells(16, round_of, (0, 1) + (0,) * 14, prime)
            self.tells(((1, prime ** 5),), rounds_of, (1 - prime, 0, 0, 0, 0), prime)
            self.tells(1, state_tail, (0,) * 16, prime, (0,) * 15 + (1,))
            self.tells(0, state_tail, (0,) * 16, prime, (0,) * 16)
            self.tells(1, state_round, (0,) * 16, prime, (0,) * 15 + (1,))
        self.tells(16, tail_of, (1, 1) + (0,) * 14, 2)
        self.tells(8, tail_of, (1, 0, 1) + (0,) * 13, 2)
        self.tells(6, tail_of, (1, 1, 1, 1) + (0,) * 12, 2)
        self.tells(13, state_tail, (1, 1) + (0,) * 14, 2, (1, 1, 1, 1) + (0,) * 12)
        self.tells(12, round_of, (2,), 13)
        self.tells(((1, 1), (12, 1)), rounds_of, (2,), 13)
        self.tells(((1, 1), (3, 4)), rounds_of, (3,), 13)

    def test_states_of_great_machines(self):
        chance = a_chance(781)
        for voice, prime in some_machines(782, (9, 12, 14, 15, 16)):
            size = len(voice)
            state = some_voice(chance, size, 0, prime - 1)
            tail, many = state_tail(voice, prime, state), state_round(voice, prime, state)
            reached = after(voice, prime, state, tail)
            self.same(after(voice, prime, reached, many), reached)
            if tail:
                ahead = after(voice, prime, state, tail - 1)
                self.assertNotEqual(after(voice, prime, ahead, many), ahead)
            for part in [p for p in range(2, 50) if many % p == 0 and len(reckon.divisors(p)) == 2]:
                self.assertNotEqual(after(voice, prime, reached, many // part), reached)
            self.assertEqual(round_of(voice, prime) % many, 0)
            self.assertLessEqual(tail, tail_of(voice, prime))


class Consequences(BeatTest):
    def test_tails(self):
        for voice, prime in some_machines(800, (6, 8, 9, 12, 13, 15, 16)):
            size = len(voice)
            met = [(factor, often) for factor, often in factors_of(size, prime) if divides(factor, voice, prime)]
            told = 0
            for factor, often in met:
                many = max(k for k in range(1, often + 1) if divides(power_modulo(factor, k, prime), voice, prime))
                told = max(told, (often + many - 1) // many)
            self.tells(told, tail_of, voice, prime)
            self.assertTrue(told <= 1 or size % prime == 0)
            self.assertEqual(goes_back(voice, prime), told == 0)
            self.assertEqual(sum((len(factor) - 1) * often for factor, often in met), dying_rank(voice, prime))

    def test_rounds(self):
        for voice, prime in some_machines(801, (5, 6, 8, 9, 12, 13, 15, 16)):
            size = len(voice)
            pairs = rounds_of(voice, prime)
            self.same(pairs, tuple(sorted(pairs)))
            self.assertTrue(all(length >= 1 and many >= 1 for length, many in pairs))
            lengths = [length for length, _ in pairs]
            self.assertEqual(len(set(lengths)), len(lengths))
            self.assertEqual(sum(length * many for length, many in pairs), prime ** (size - dying_rank(voice, prime)))
            self.tells(lcm(*lengths), round_of, voice, prime)
            # The machine of all steps of a whole round moves no state on a round.
            still = after(voice, prime, (1,) + (0,) * (size - 1), round_of(voice, prime))
            self.assertTrue(all(length == 1 for length, _ in rounds_of(still, prime)))

    def test_what_is_met_dies(self):
        chance = a_chance(802)
        for voice, prime in some_machines(803, (6, 8, 12)):
            size = len(voice)
            state = some_voice(chance, size, 0, prime - 1)
            for each in (state, after(voice, prime, state, tail_of(voice, prime))):
                met = [part for part, (factor, _) in zip(state_parts(size, prime, each), factors_of(size, prime))
                       if divides(factor, voice, prime)]
                self.assertEqual(state_tail(voice, prime, each) == 0, not any(any(part) for part in met))

    def test_rounds_divide_what_is_told(self):
        for voice, prime in some_machines(804, (5, 7, 9, 10, 16)):
            size = len(voice)
            many = round_of(voice, prime)
            while many % prime == 0:
                many //= prime
            told = lcm(*[prime ** (len(factor) - 1) - 1 for factor, _ in factors_of(size, prime)])
            self.assertEqual(told % many, 0)
            self.assertEqual(common_factor(voice, prime) == (1,), tail_of(voice, prime) == 0)


class Refused(BeatTest):
    def test_primes(self):
        for prime in NO_PRIMES:
            for call in (tail_of, round_of, rounds_of):
                self.refused("prime", call, STEP, prime)
            for call in (state_tail, state_round):
                self.refused("prime", call, STEP, prime, None)

    def test_states(self):
        for call in (state_tail, state_round):
            for thing in no_states(6, 7):
                self.refused("state", call, STEP, 7, thing)

    def test_named(self):
        self.same((tail_of(prime=2, voice=STEP), round_of(prime=2, voice=STEP)), (2, 6))
        self.same(rounds_of(prime=2, voice=(1,)), ((1, 2),))
        self.same((state_tail(state=STEP, prime=2, voice=STEP), state_round(state=STEP, prime=2, voice=STEP)), (1, 6))


if __name__ == "__main__":
    unittest.main()
