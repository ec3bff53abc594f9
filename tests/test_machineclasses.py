"""[82]: the class Machine."""

import itertools
import unittest

from silentbeats.machineclasses import Machine
from silentbeats.machines import back_voice, goes_back
from silentbeats.rounds import rounds_of
from silentbeats.voiceclasses import Voice
from tests import reckon
from tests.base import NO_NUMBERS, NO_PRIMES, NO_VOICES, STEP, BeatTest, a_chance, no_states, shown, some_voice
from tests.small_machines import wheels
from tests.test_machines import PRIMES


class Derived(Machine):
    """A derived class."""


class MachineTest(BeatTest):
    def is_one(self, found, voice, prime):
        self.assertIs(type(found), Machine)
        self.same((found.voice_now, found.prime_now), (voice, prime))

    def test_properties_and_steps(self):
        for wheel in wheels():
            voice, prime = wheel.voice, wheel.prime
            one = Machine(voice, prime)
            self.same((one.voice_now, one.prime_now, len(one)), (voice, prime, len(voice)))
            self.same(one.digits_now, tuple(weight % prime for weight in voice))
            self.assertIs(one.is_back, goes_back(voice, prime))
            self.tells(rounds_of(voice, prime), one.rounds)
            for state in wheel.some(a_chance(820), 9):
                self.tells(wheel.next[state], one, state)
                walk = [state]
                for many in range(6):
                    self.tells(walk[-1], one.after, state, many)
                    self.tells(tuple(walk), one.walk, state, many)
                    walk.append(wheel.next[walk[-1]])

    def test_great_machines(self):
        chance = a_chance(821)
        for size in (12, 36):
            for prime in PRIMES:
                voice, state = some_voice(chance, size, -1000, 1000), some_voice(chance, size, 0, prime - 1)
                one = Derived(voice, prime)
                walk = one.walk(state, 20)
                self.assertEqual(len(walk), 21)
                self.same(walk[-1], one.after(state, 20))
                self.same(walk[1], reckon.step(voice, prime, state))
                self.same(one.after(state, 10 ** 18), one.after(one.after(state, 10 ** 17), 9 * 10 ** 17))
        self.assertEqual(len(Machine((0, 1), 2).walk((1, 0), 1000)), 1001)

    def test_construction_refused(self):
        for kind in (Machine, Derived):
            for thing in NO_VOICES + (Voice(1, 0),):
                self.refused("voice", kind, thing, None)
                self.refused("voice", kind, thing, 2)
            for prime in NO_PRIMES:
                self.refused("prime", kind, STEP, prime)
        self.is_one(Machine(prime=3, voice=STEP), STEP, 3)

    def test_states_refused(self):
        one = Machine(STEP, 5)
        for thing in no_states(6, 5):
            self.refused("state", one, thing)
            self.refused("state", one.after, thing, None)
            self.refused("state", one.walk, thing, None)
            self.assertIs(thing in one, False)
        for many in NO_NUMBERS:
            self.refused("many", one.after, STEP, many)
            self.refused("many", one.walk, STEP, many)
        self.same(one(state=(0,) * 6), (0,) * 6)
        self.same(one.after(many=1, state=(4,) * 6), (3,) * 6)
        self.same(one.walk(many=1, state=(4,) * 6), ((4,) * 6, (3,) * 6))

    def test_contains(self):
        one = Machine((7, 0, 0), 3)
        for thing in itertools.product(range(-1, 4), repeat=3):
            self.assertIs(thing in one, all(0 <= digit < 3 for digit in thing))
        for thing in (Voice(1, 1, 1), one, [0, 0, 0], (True, 0, 0), (0, 0), (0, 0, 0, 0)):
            self.assertIs(thing in one, False)

    def test_equality(self):
        one = Machine((4, -1, 0), 3)
        for other in (Machine((1, 2, 3), 3), Derived((1, 2, 0), 3), Machine((4, -1, 0), 3)):
            self.assertIs(one == other, True)
            self.assertIs(other == one, True)
            self.assertIs(one != other, False)
        for other in (Machine((4, -1, 0), 5), Machine((4, -1, 1), 3), Machine((4, -1), 3), Machine((1, 2, 0, 0), 3),
                      (4, -1, 0), ((4, -1, 0), 3), Voice(4, -1, 0), None, True, "", 3):
            self.assertIs(one == other, False)
            self.assertIs(one != other, True)

    def test_equal_machines_lead_alike(self):
        chance = a_chance(822)
        for prime, size in ((2, 3), (3, 2), (2, 4)):
            voices = [some_voice(chance, size, -4, 4) for _ in range(12)]
            for one, other in itertools.product(voices, voices):
                alike = all(reckon.step(one, prime, state) == reckon.step(other, prime, state)
                            for state in itertools.product(range(prime), repeat=size))
                self.assertIs(Machine(one, prime) == Machine(other, prime), alike)

    def test_products(self):
        chance = a_chance(823)
        for size in (1, 2, 6, 12):
            for prime in PRIMES:
                one, other = some_voice(chance, size, -1000, 1000), some_voice(chance, size)
                state = some_voice(chance, size, 0, prime - 1)
                both = Derived(one, prime) * Machine(other, prime)
                self.is_one(both, reckon.around(one, other), prime)
                self.same(both(state), Machine(other, prime)(Machine(one, prime)(state)))
        one = Machine(STEP, 3)
        for thing in (None, True, 1, 3, "", STEP, Voice(*STEP), Machine(STEP, 5), Machine((1, 1), 3), Derived(STEP + STEP, 3)):
            self.refused("other", one.__mul__, thing)
            self.refused("other", lambda: one * thing)

    def test_back(self):
        for wheel in wheels():
            one, size = Derived(wheel.voice, wheel.prime), len(wheel.voice)
            back = one.back()
            if goes_back(wheel.voice, wheel.prime):
                self.is_one(back, back_voice(wheel.voice, wheel.prime), wheel.prime)
                self.assertIs(back * one == Machine((1,) + (0,) * (size - 1), wheel.prime), True)
                for state in wheel.some(a_chance(824), 5):
                    self.same(back(one(state)), state)
            else:
                self.assertIsNone(back)

    def test_nothing_changes_it(self):
        one, other = Machine((1, 1, 0, 0, 0), 3), Machine((0, 1, 0, 0, 0), 3)
        before = shown((one, other))
        state = (0, 0, 0, 0, 1)
        for _ in range(2):
            told = (one(state), one.after(state, 2), one.walk(state, 1), one.is_back, one.digits_now, len(one), state in one,
                    one == other, (one * other).voice_now, one.back().voice_now, one.rounds()[:1])
            self.assertEqual(shown((one, other)), before)
            self.refused("state", one, None)
            self.refused("many", one.walk, state, -1)
            self.refused("other", lambda: one * None)
            self.assertEqual(shown((one, other)), before)
        self.same(told, ((1, 0, 0, 0, 1), (2, 1, 0, 0, 1), (state, (1, 0, 0, 0, 1)), True,
                         (1, 1, 0, 0, 0), 5, True, False, (0, 1, 1, 0, 0), (2, 1, 2, 1, 2), ((1, 1),)))


if __name__ == "__main__":
    unittest.main()
