"""[81], (G6): papers on whether a machine goes back, and their judge."""

import itertools
import unittest

from silentbeats.machinechecker import lets_back
from silentbeats.machinepapers import back_paper
from silentbeats.voiceclasses import Voice
from tests import reckon
from tests.base import NO_PRIMES, PAIR, STEP, BeatTest, a_chance, no_states, some_voice
from tests.small_machines import wheels
from tests.test_machines import PRIMES


class Papers(BeatTest):
    def check(self, voice, prime):
        """Whether the paper is right, by plain reckoning and by the judge; and whether it says that the machine goes back."""
        paper = back_paper(voice, prime)
        self.tells(paper, back_paper, voice, prime)
        word, state = paper
        size = len(voice)
        self.assertIn(word, ("back", "both"))
        self.assertTrue(type(state) is tuple and len(state) == size)
        self.assertTrue(all(type(digit) is int and 0 <= digit < prime for digit in state))
        told = (1,) + (0,) * (size - 1) if word == "back" else (0,) * size
        self.same(reckon.step(voice, prime, state), told)
        self.assertTrue(word == "back" or any(state))
        self.tells(word == "back", lets_back, voice, prime, paper)
        return word == "back"

    def test_small_machines(self):
        for wheel in wheels():
            back = all(len(ahead) == 1 for ahead in wheel.ahead.values())
            self.assertIs(self.check(wheel.voice, wheel.prime), back)

    def test_great_machines(self):
        chance = a_chance(810)
        for size in (9, 12, 16, 30, 36):
            for prime in PRIMES:
                self.check(some_voice(chance, size, -1000, 1000), prime)
                self.assertIs(self.check((1, -1) + (0,) * (size - 2), prime), False)
                self.assertIs(self.check((0,) * (size - 1) + (1,), prime), True)
                self.assertIs(self.check((prime,) * size, prime), False)

    def test_refused(self):
        for prime in NO_PRIMES:
            self.refused("prime", back_paper, STEP, prime)
            for thing in (None, (), ("back", STEP)):
                self.refused("prime", lets_back, STEP, prime, thing)
        self.same(back_paper(prime=2, voice=(1,)), ("back", (1,)))
        self.assertIs(lets_back(thing=("back", (1,)), prime=2, voice=(1,)), True)


class Judge(BeatTest):
    def test_right_papers_by_hand(self):
        self.tells(True, lets_back, (1, 1, 0, 0, 0), 3, ("back", (2, 1, 2, 1, 2)))
        self.tells(False, lets_back, STEP, 2, ("both", (1, 1, 1, 1, 1, 1)))
        for state in ((1, 4, 1, 4, 1, 4), (2, 3, 2, 3, 2, 3)):
            self.tells(False, lets_back, STEP, 5, ("both", state))
        self.tells(False, lets_back, PAIR, 5, ("both", (1, 0, 0, 4, 0, 0)))
        self.tells(False, lets_back, PAIR, 5, ("both", (1, 2, 0, 4, 3, 0)))
        self.tells(True, lets_back, (-1,), 13, ("back", (12,)))
        self.tells(False, lets_back, (26,), 13, ("both", (7,)))

    def test_all_states(self):
        for voice, prime in (((1, 1, 0), 2), ((1, 1, 1), 2), ((1, 1, 0), 3), ((0, 0), 3), ((2, 1), 3), ((4,), 5)):
            size = len(voice)
            unit, noughts = (1,) + (0,) * (size - 1), (0,) * size
            for state in itertools.product(range(prime), repeat=size):
                led = reckon.step(voice, prime, state)
                if led == unit:
                    self.tells(True, lets_back, voice, prime, ("back", state))
                else:
                    self.unfit("product", -1, lets_back, voice, prime, ("back", state))
                if state == noughts:
                    self.unfit("state", -1, lets_back, voice, prime, ("both", state))
                elif led == noughts:
                    self.tells(False, lets_back, voice, prime, ("both", state))
                else:
                    self.unfit("product", -1, lets_back, voice, prime, ("both", state))

    def test_shape(self):
        for thing in (
            None, True, 0, 1, "", "back", "ab", (), [], ("back",), ("both",), ("back", STEP, 0), ["back", STEP],
            ("Back", STEP), (("back",), STEP), (None, STEP), (1, STEP), ("turned", 0), (STEP, "back"), ("both", STEP, STEP),
        ):
            self.unfit("shape", -1, lets_back, STEP, 2, thing)
            self.unfit("shape", -1, lets_back, (0, 0, 0, 0, 0, 1), 2, thing)

    def test_state(self):
        for thing in no_states(6, 2) + (Voice(*STEP), "110000"):
            self.unfit("state", -1, lets_back, STEP, 2, ("back", thing))
            self.unfit("state", -1, lets_back, STEP, 2, ("both", thing))
        self.unfit("state", -1, lets_back, STEP, 2, ("both", (0,) * 6))
        self.unfit("product", -1, lets_back, STEP, 2, ("back", (0,) * 6))

    def test_limits_are_not_those_of_papers(self):
        self.tells(True, lets_back, (1,) + (0,) * 40, 17, ("back", (1,) + (0,) * 40))


if __name__ == "__main__":
    unittest.main()
