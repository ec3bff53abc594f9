"""[9], [73] to [76], (G6): machines, steps ahead and steps back."""

import itertools
import unittest

from silentbeats.machines import (
    after, back_voice, before, before_count, common_factor, dying_rank, garden, goes_back, is_state, step_of,
)
from silentbeats.polynomials import times
from silentbeats.wholes import room_index
from tests import reckon
from tests.base import NO_INTEGERS, NO_NUMBERS, NO_PRIMES, NO_SIZES, STEP, THIRDS, BeatTest, a_chance, no_states, some_voice
from tests.small_machines import wheels

PRIMES = (2, 3, 5, 7, 11, 13)


def around_by(size, prime):
    """x ** size - 1 modulo the prime."""
    return (prime - 1,) + (0,) * (size - 1) + (1,)


def rest_modulo(one, by, prime):
    """The rest that one leaves modulo the prime by a polynomial whose last digit is 1."""
    rest = [weight % prime for weight in one]
    while len(rest) >= len(by):
        lead = rest.pop()
        for k in range(len(by) - 1):
            rest[len(rest) - len(by) + 1 + k] = (rest[len(rest) - len(by) + 1 + k] - lead * by[k]) % prime
    return rest


def divides(by, one, prime):
    return not any(rest_modulo(one, by, prime))


class States(BeatTest):
    def test_all_small_ones(self):
        for size, prime in ((1, 2), (2, 2), (2, 3), (3, 2)):
            for thing in itertools.product(range(-1, prime + 2), repeat=size):
                self.tells(all(0 <= digit < prime for digit in thing), is_state, size, prime, thing)

    def test_other_values(self):
        for size, prime in ((1, 2), (2, 3), (6, 13), (36, 5)):
            for thing in no_states(size, prime):
                self.tells(False, is_state, size, prime, thing)
            self.tells(True, is_state, size, prime, (prime - 1,) * size)

    def test_refused(self):
        for size in NO_SIZES:
            self.refused("size", is_state, size, None, None)
        for prime in NO_PRIMES:
            self.refused("prime", is_state, 2, prime, (0, 0))


class Steps(BeatTest):
    def test_all_states_of_small_machines(self):
        for wheel in wheels():
            voice, prime = wheel.voice, wheel.prime
            for state in wheel.some(a_chance(741)):
                self.tells(wheel.next[state], step_of, voice, prime, state)
                reached = state
                for many in range(7):
                    self.tells(reached, after, voice, prime, state, many)
                    reached = wheel.next[reached]

    def test_great_machines(self):
        chance = a_chance(742)
        for size in (12, 16, 25, 36):
            for prime in PRIMES:
                voice = some_voice(chance, size, -1000, 1000)
                state = some_voice(chance, size, 0, prime - 1)
                self.tells(reckon.step(voice, prime, state), step_of, voice, prime, state)
                twice = reckon.step(voice, prime, reckon.step(voice, prime, state))
                self.tells(twice, after, voice, prime, state, 2)

    def test_many_steps(self):
        for wheel in wheels():
            state = wheel.states[-1]
            voice, prime, tail, many = wheel.voice, wheel.prime, wheel.tails[state], wheel.rounds[state]
            for great in (10 ** 18, 10 ** 60 - 1):
                reached = state
                for _ in range(tail + (great - tail) % many):
                    reached = wheel.next[reached]
                self.same(after(voice, prime, state, great), reached)
        self.tells((1, 0, 0, 0, 1, 0), after, STEP, 2, (1, 0, 0, 0, 0, 0), 10 ** 18)

    def test_as_many_steps_as_the_prime(self):
        chance = a_chance(743)
        for size in (1, 4, 6, 9, 12):
            for prime in PRIMES:
                voice, state = some_voice(chance, size, -9, 9), some_voice(chance, size, 0, prime - 1)
                weights = [0] * size
                for beat, weight in enumerate(voice):
                    weights[prime * beat % size] += weight
                self.same(after(voice, prime, state, prime), reckon.step(weights, prime, state))

    def test_refused(self):
        state = (0,) * 6
        for prime in NO_PRIMES:
            self.refused("prime", step_of, STEP, prime, None)
            self.refused("prime", after, STEP, prime, None, None)
        for thing in no_states(6, 3):
            self.refused("state", step_of, STEP, 3, thing)
            self.refused("state", after, STEP, 3, thing, None)
        for many in NO_NUMBERS:
            self.refused("many", after, STEP, 3, state, many)
        self.refused("state", step_of, STEP, 2, (2, 0, 0, 0, 0, 0))
        self.same(step_of(state=(1, 0), prime=2, voice=(0, 1)), (0, 1))
        self.same(after(many=1, state=(1, 0), prime=2, voice=(0, 1)), (0, 1))
        self.assertIs(is_state(thing=(1,), prime=2, size=1), True)


class CommonFactors(BeatTest):
    def check(self, voice, prime):
        """Whether the factor divides both, and is the greatest: as many states as told are led to noughts."""
        factor = common_factor(voice, prime)
        self.tells(factor, common_factor, voice, prime)
        self.assertEqual(factor[-1], 1)
        self.assertTrue(all(type(digit) is int and 0 <= digit < prime for digit in factor))
        self.assertTrue(divides(factor, voice, prime))
        self.assertTrue(divides(factor, around_by(len(voice), prime), prime))
        return factor

    def test_small_machines(self):
        for wheel in wheels():
            factor = self.check(wheel.voice, wheel.prime)
            noughts = (0,) * len(wheel.voice)
            self.assertEqual(len(wheel.ahead[noughts]), wheel.prime ** (len(factor) - 1))
            self.tells(all(len(ahead) == 1 for ahead in wheel.ahead.values()), goes_back, wheel.voice, wheel.prime)
            rank = dying_rank(wheel.voice, wheel.prime)
            self.tells(rank, dying_rank, wheel.voice, wheel.prime)
            self.assertEqual(wheel.dying(), wheel.prime ** rank)

    def test_made_to_share(self):
        chance = a_chance(750)
        for size in (12, 16, 30, 36):
            for prime in PRIMES:
                shared = tuple(digit % prime for digit in reckon.wheel(chance.choice(reckon.divisors(size))))
                voice = tuple(times(shared, some_voice(chance, size - len(shared), 0, 5) + (1,)))
                voice = voice + (0,) * (size - len(voice))
                factor = self.check(voice, prime)
                self.assertTrue(divides(shared, factor, prime))
                self.tells(len(factor) == 1, goes_back, voice, prime)

    def test_by_hand(self):
        self.tells((1, 1), common_factor, STEP, 2)
        self.tells((1, 0, 1, 0, 1), common_factor, THIRDS, 2)
        self.tells((1,), common_factor, (1,), 2)
        self.tells((1,), common_factor, (5,), 3)
        for prime in PRIMES:
            for size in (1, 2, 6, 16, 36):
                self.tells(around_by(size, prime), common_factor, (0,) * size, prime)
                self.tells(around_by(size, prime), common_factor, (prime, -5 * prime) * (size // 2) + (0,) * (size % 2), prime)
                self.tells(size, dying_rank, (7 * prime,) * size, prime)
                self.tells((1,), common_factor, (0,) * (size - 1) + (1,), prime)
                self.tells(0, dying_rank, (0,) * (size - 1) + (-1,), prime)
        # A voice of an even total dies wholly on a clock of a power of two.
        self.tells(16, dying_rank, (1, 1) + (0,) * 14, 2)
        self.tells(2, dying_rank, STEP, 2)

    def test_rooms(self):
        chance = a_chance(751)
        for size in range(1, 17):
            for prime in PRIMES:
                voice = some_voice(chance, size, -2, 2)
                back = not reckon.silences(voice) and room_index(voice) % prime != 0
                self.tells(back, goes_back, voice, prime)

    def test_powers_of_the_prime(self):
        chance = a_chance(752)
        for size, prime in ((1, 2), (2, 2), (4, 2), (8, 2), (16, 2), (3, 3), (9, 3), (5, 5), (7, 7), (13, 13)):
            for _ in range(6):
                voice, state = some_voice(chance, size, -5, 5), some_voice(chance, size, 0, prime - 1)
                self.tells(sum(voice) % prime != 0, goes_back, voice, prime)
                if sum(voice) % prime == 0:
                    self.tells((0,) * size, after, voice, prime, state, size)

    def test_refused(self):
        for call in (common_factor, dying_rank, goes_back, back_voice, garden):
            for prime in NO_PRIMES:
                self.refused("prime", call, STEP, prime)
            call(voice=STEP, prime=2)


class Back(BeatTest):
    def test_all_states_of_small_machines(self):
        for wheel in wheels():
            voice, prime = wheel.voice, wheel.prime
            for state in wheel.some(a_chance(760)):
                ahead = wheel.ahead[state]
                self.tells(len(ahead), before_count, voice, prime, state)
                found = before(voice, prime, state)
                self.tells(found, before, voice, prime, state)
                if ahead:
                    self.assertIn(found, ahead)
                    self.assertTrue(all(type(digit) is int for digit in found))
                else:
                    self.assertIsNone(found)
            self.tells(sum(not ahead for ahead in wheel.ahead.values()), garden, voice, prime)

    def test_back_voices(self):
        for wheel in wheels():
            voice, prime = wheel.voice, wheel.prime
            unit = (1,) + (0,) * (len(voice) - 1)
            backs = wheel.ahead[unit]
            self.tells(backs[0] if backs else None, back_voice, voice, prime)
        chance = a_chance(761)
        for size in (12, 25, 36):
            for prime in PRIMES:
                voice = some_voice(chance, size, -1000, 1000)
                found = back_voice(voice, prime)
                self.assertEqual(found is not None, goes_back(voice, prime))
                if found is not None:
                    self.assertTrue(all(0 <= digit < prime for digit in found))
                    self.same(reckon.step(voice, prime, found), (1,) + (0,) * (size - 1))

    def test_great_machines(self):
        chance = a_chance(762)
        for size in (12, 16, 36):
            for prime in PRIMES:
                voice = (1, 1, 1) + (0,) * (size - 3) if size != 16 else (1, -1) + (0,) * 14
                state = some_voice(chance, size, 0, prime - 1)
                told = reckon.step(voice, prime, state)
                self.same(reckon.step(voice, prime, before(voice, prime, told)), told)
                lost = len(common_factor(voice, prime)) - 1
                self.same(before_count(voice, prime, told), prime ** lost)
                self.same(garden(voice, prime), prime ** size - prime ** (size - lost))
                self.assertGreater(lost, 0)
                outside = tuple((digit + int(beat == 0)) % prime for beat, digit in enumerate(told))
                self.tells(None, before, voice, prime, outside)
                self.tells(0, before_count, voice, prime, outside)

    def test_refused(self):
        for call in (before, before_count):
            for prime in NO_PRIMES:
                self.refused("prime", call, STEP, prime, None)
            for thing in no_states(6, 5) + NO_INTEGERS:
                self.refused("state", call, STEP, 5, thing)
            call(state=STEP, prime=2, voice=STEP)


if __name__ == "__main__":
    unittest.main()
