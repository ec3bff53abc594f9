"""[66] and [67]: kin of a voice."""

import itertools
import unittest

from silentbeats.kin import kin_count, kin_step, least_kin
from silentbeats.voiceclasses import Voice
from tests import reckon
from tests.base import ALL, PAIR, STEP, THIRDS, BeatTest, a_chance, no_voices_of, some_voice


def some_voices(seed):
    """Voices of all sizes to sixteen, some of strokes, some with mirrors that are they themselves."""
    chance = a_chance(seed)
    for size in list(range(1, 17)) + [36]:
        voice = some_voice(chance, size, -50, 50)
        yield voice
        yield some_voice(chance, size, 0, 1)
        yield tuple(a + b for a, b in zip(voice, reckon.mirror(voice)))
        yield (chance.randint(-2, 2),) * size


def first_step(one, other):
    """The first of the two words and the least number that lead from one to other."""
    for word, voice in (("turned", one), ("mirrored", reckon.mirror(one))):
        for k in range(len(one)):
            if reckon.later(voice, k) == other:
                return (word, k)
    return None


class Kin(BeatTest):
    def test_least_and_count(self):
        for voice in some_voices(670):
            kin = reckon.kin(voice)
            self.tells(kin[0], least_kin, voice)
            self.tells(len(kin), kin_count, voice)
            self.assertEqual(2 * len(voice) % kin_count(voice), 0)
            for each in kin:
                self.same(least_kin(each), kin[0])

    def test_counts_by_hand(self):
        for voice, many in ((STEP, 6), (PAIR, 3), (THIRDS, 2), (ALL, 1), ((1, 2, 3), 6), ((7,), 1), ((0, 1), 2),
                            ((-1, 2, 0, 0), 8), ((1, 1, 0, 1, 0, 0, 0), 14)):
            self.tells(many, kin_count, voice)
        self.tells((-1, 0, 0, 2), least_kin, (0, 2, -1, 0))

    def test_steps(self):
        for voice in some_voices(671):
            for kin in reckon.kin(voice)[:12]:
                self.tells(first_step(voice, kin), kin_step, voice, kin)
            self.tells(None, kin_step, voice, tuple(weight + 1 for weight in voice))

    def test_turned_by_any_integer(self):
        for voice in some_voices(672):
            size = len(voice)
            for k in (-1, -size, -size - 3, size + 2, 10 ** 18, -(10 ** 18) - 1):
                for each in (voice, reckon.mirror(voice)):
                    kin = reckon.later(each, k)
                    self.same(least_kin(kin), least_kin(voice))
                    self.tells(first_step(voice, kin), kin_step, voice, kin)

    def test_all_pairs_of_small_voices(self):
        for size in (1, 2, 3, 4):
            voices = list(itertools.product((0, 1, 2), repeat=size))
            for one, other in itertools.product(voices[::2], voices):
                self.same(kin_step(one, other), first_step(one, other))

    def test_the_least_number_and_the_first_word(self):
        self.tells(("turned", 0), kin_step, ALL, ALL)
        self.tells(("turned", 1), kin_step, THIRDS, (0, 1, 0, 1, 0, 1))
        self.tells(("turned", 5), kin_step, STEP, (1, 0, 0, 0, 0, 1))
        self.tells(("mirrored", 0), kin_step, (1, 2, 3), (1, 3, 2))
        self.tells(("mirrored", 2), kin_step, (1, 2, 3), (3, 2, 1))
        # Voices with one echo that are no kin.
        self.tells(None, kin_step, (1, 1, 0, 1, 1, 0, 0, 0), (1, 1, 1, 0, 0, 1, 0, 0))
        self.tells(None, kin_step, (1, 0), (-1, 0))

    def test_refused(self):
        for thing in no_voices_of(6) + (Voice(*STEP),):
            self.refused("other", kin_step, STEP, thing)
        self.refused("other", kin_step, (1,), (1, 1))

    def test_named(self):
        self.same(least_kin(voice=(1, 0)), (0, 1))
        self.same(kin_count(voice=(1, 0)), 2)
        self.same(kin_step(other=(0, 1), one=(1, 0)), ("turned", 1))


if __name__ == "__main__":
    unittest.main()
