"""[32]: the class Silences."""

import itertools
import unittest

from silentbeats.silenceclasses import Silences
from silentbeats.silences import silences_of, silent_basis, silent_from, silent_rank
from silentbeats.voiceclasses import Voice
from tests import reckon
from tests.base import NO_SIZES, NO_VOICES, PAIR, STEP, THIRDS, BeatTest, a_chance, no_voices_of, shown, some_voice


class Derived(Silences):
    """A derived class."""


def product(divisors):
    """The product of C_d for all these."""
    reached = [1]
    for divisor in divisors:
        by = reckon.wheel(divisor)
        longer = [0] * (len(reached) + len(by) - 1)
        for j, a in enumerate(reached):
            for k, b in enumerate(by):
                longer[j + k] += a * b
        reached = longer
    return tuple(reached)


def sets_of(size):
    divisors = reckon.divisors(size)
    return [found for many in range(len(divisors) + 1) for found in itertools.combinations(divisors, many)]


class SilencesTest(BeatTest):
    def is_one(self, found, size, divisors):
        self.assertIs(type(found), Silences)
        self.same((found.size_now, found.divisors_now), (size, divisors))

    def test_properties_and_voices(self):
        for size in (1, 2, 4, 6, 12):
            for divisors in sets_of(size):
                one = Silences(size, divisors)
                self.is_one(one, size, divisors)
                self.same(one.factor_now, product(divisors))
                self.assertEqual(len(one), silent_rank(size, divisors))
                self.same(tuple(one), silent_basis(size, divisors))
                weights = tuple(range(3, 3 + len(one)))
                self.same(one(weights), silent_from(size, divisors, weights))
                self.assertIs(one(weights) in one, True)

    def test_two_loops_at_once(self):
        one = Silences(6, (2, 6))
        pairs = [(a, b) for a in one for b in one]
        self.assertEqual(len(pairs), 9)
        self.assertEqual(pairs[:4], [(list(one)[0], b) for b in list(one)] + [(list(one)[1], list(one)[0])])
        self.same(list(Silences(6, (1, 2, 3, 6))), [])

    def test_construction_refused(self):
        for size in NO_SIZES:
            self.refused("size", Silences, size, ())
            self.refused("size", Silences, size, None)
        for thing in (True, None, 0, 2, "", [], [2], (0,), (4,), (3, 2), (2, 2), (True,), (1, True), (None,), (12,)):
            self.refused("divisors", Silences, 6, thing)

    def test_contains(self):
        one = Silences(6, (2, 6))
        for voice in (PAIR, (0,) * 6, (1, 2, 3, 1, 2, 3), (-7,) * 6):
            self.assertIs(voice in one, True)
        for thing in no_voices_of(6) + (STEP, THIRDS, list(PAIR), Voice(*PAIR), one, (1, 0, 0, True, 0, 0)):
            self.assertIs(thing in one, False)
        self.assertIs((5, 6) in Silences(2, ()), True)
        self.assertIs((0, 0) in Silences(2, (1, 2)), True)
        self.assertIs((1, 1) in Silences(2, (1, 2)), False)

    def test_weights_refused(self):
        one = Silences(6, (2, 6))
        for thing in (None, True, 1, (), (1, 2), (1, 2, 3, 4), [1, 2, 3], (1, 2, True), "123", ((1,), 2, 3)):
            self.refused("weights", one, thing)
        self.same(Silences(2, (1, 2))(()), (0, 0))
        self.refused("weights", Silences(2, (1, 2)), (0,))

    def test_lacking(self):
        chance = a_chance(320)
        for divisors in sets_of(12)[::3]:
            one = Silences(12, divisors)
            for voice in ((0,) * 12, (1,) * 12, some_voice(chance, 12), (1, 1) + (0,) * 10):
                expected = tuple(d for d in divisors if not reckon.silent(voice, d))
                self.tells(expected, one.lacking, voice)
        for thing in no_voices_of(6):
            self.refused("voice", Silences(6, (2,)).lacking, thing)

    def test_both_and_either(self):
        for mine, theirs in itertools.product(sets_of(6), repeat=2):
            one, other = Silences(6, mine), Derived(6, theirs)
            self.is_one(one & other, 6, tuple(sorted(set(mine) | set(theirs))))
            self.is_one(one | other, 6, tuple(sorted(set(mine) & set(theirs))))
            self.is_one(other & one, 6, tuple(sorted(set(mine) | set(theirs))))
            self.assertIs(one.lies_in(other), all(voice in other for voice in one))
            self.assertIs(one.lies_in(other), set(theirs) <= set(mine))
            self.assertIs(one == other, mine == theirs)
            self.assertIs(one != other, mine != theirs)

    def test_partners_refused(self):
        one = Silences(6, (2,))
        for thing in (None, True, 0, "", (), (2,), [2], PAIR, Voice(*PAIR), Silences(12, (2,)), Silences(3, ())):
            self.refused("other", lambda x: one & x, thing)
            self.refused("other", lambda x: one | x, thing)
            self.refused("other", one.lies_in, thing)

    def test_nothing_changes_it(self):
        one, other = Silences(6, (2, 6)), Silences(6, (3,))
        before = shown((one, other))
        for _ in range(2):
            told = (one & other, one | other, one == other, one.lies_in(other), one((1, 2, 3)), one.lacking(STEP),
                    PAIR in one, len(one), list(one), one.factor_now, one.divisors_now, one.size_now)
            self.assertEqual(shown((one, other)), before)
            self.refused("other", one.lies_in, None)
            self.refused("weights", one, None)
            self.assertEqual(shown((one, other)), before)
        self.same(told[2:], (False, False, (1, 2, 3, 1, 2, 3), (6,), True, 3, list(silent_basis(6, (2, 6))),
                             product((2, 6)), (2, 6), 6))

    def test_equality(self):
        one = Silences(6, (2,))
        self.assertIs(one == Silences(6, (2,)), True)
        self.assertIs(one == Derived(6, (2,)), True)
        for other in (Silences(6, (3,)), Silences(6, ()), Silences(12, (2,)), (6, (2,)), None, True, "", Voice(2)):
            self.assertIs(one == other, False)
            self.assertIs(one != other, True)

    def test_of(self):
        for voice in (PAIR, STEP, THIRDS, (0,), (5,), (0,) * 12, (1,) * 12, (1, -1, 1, -1)):
            self.is_one(Silences.of(voice), len(voice), silences_of(voice))
            self.assertIn(voice, Silences.of(voice))
        self.same(Silences.of(voice=PAIR).divisors_now, (2, 6))
        for thing in NO_VOICES + (Voice(1), Silences(1, ())):
            self.refused("voice", Silences.of, thing)


if __name__ == "__main__":
    unittest.main()
