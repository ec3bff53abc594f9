"""[9], [63] to [65], (G5): echoes, intervals, and voices of all other strokes."""

import itertools
import unittest

from silentbeats.echoes import crossed, echo_of, intervals_of, mixed_pair, same_echo, the_others
from silentbeats.voiceclasses import Voice
from tests import reckon
from tests.base import NO_VOICES, PAIR, STEP, THIRDS, BeatTest, a_chance, no_voices_of, some_room, some_voice


def some_pairs(seed, low=-50, high=50):
    """Pairs of voices of one size, on clocks of one beat to sixteen, and some on greater ones."""
    chance = a_chance(seed)
    for size in list(range(1, 17)) + [24, 36]:
        yield some_voice(chance, size, low, high), some_voice(chance, size, low, high)
        yield some_voice(chance, size, 0, 1), some_voice(chance, size, 0, 1)
    for size in (1, 2, 5):
        yield (0,) * size, some_voice(chance, size)
        yield (10 ** 59,) * size, (-(10 ** 59),) + (0,) * (size - 1)


class Echoes(BeatTest):
    def test_echoes_and_products_with_mirrors(self):
        for one, other in some_pairs(640):
            self.tells(reckon.echo(one), echo_of, one)
            self.tells(reckon.around(one, reckon.mirror(other)), crossed, one, other)
            self.tells(reckon.across(one, other), crossed, one, other)
            self.tells((reckon.around(one, other), reckon.across(one, other)), mixed_pair, one, other)
            self.tells(reckon.echo(one) == reckon.echo(other), same_echo, one, other)
        self.tells((25,), echo_of, (-5,))

    def test_same_echo(self):
        for one, other in some_pairs(641):
            for kin in reckon.kin(one):
                self.tells(True, same_echo, one, kin)
            self.tells(True, same_echo, one, tuple(-weight for weight in one))
            self.tells(True, same_echo, *mixed_pair(one, other))
        self.tells(True, same_echo, (1, 1, 0, 1, 1, 0, 0, 0), (1, 1, 1, 0, 0, 1, 0, 0))
        self.tells(True, same_echo, (3, 0, 0, 0, 0, 0), (0, 2, 0, -1, 0, 2))
        self.tells(False, same_echo, STEP, PAIR)
        self.tells(False, same_echo, (1, 0), (2, 0))

    def test_all_voices_of_strokes(self):
        for size in range(1, 9):
            for voice in itertools.product((0, 1), repeat=size):
                beats = [beat for beat in range(size) if voice[beat]]
                told = [
                    sum((low - high) % size == k or (high - low) % size == k
                        for low, high in itertools.combinations(beats, 2))
                    for k in range(1, size // 2 + 1)
                ]
                self.tells(tuple(told), intervals_of, voice)
        self.tells((0, 0, 1), intervals_of, PAIR)
        self.tells((), intervals_of, (0,))
        self.tells((12, 12, 12, 12, 12, 6), intervals_of, (1,) * 12)

    def test_the_others(self):
        for one, _ in some_pairs(642):
            others = tuple(1 - weight for weight in one)
            self.tells(others, the_others, one)
            self.tells(one, the_others, others)
        self.tells((1, 0, 2, -4), the_others, (0, 1, -1, 5))


class Consequences(BeatTest):
    def test_echoes(self):
        for one, other in some_pairs(650):
            size, echo = len(one), echo_of(one)
            self.same(reckon.mirror(echo), echo)
            self.same(echo[0], sum(weight * weight for weight in one))
            self.assertTrue(all(abs(weight) <= echo[0] for weight in echo))
            self.same(sum(echo), sum(one) ** 2)
            self.same(echo_of(reckon.around(one, other)), reckon.around(echo, echo_of(other)))
            self.same(echo_of(the_others(one)), tuple(size - 2 * sum(one) + weight for weight in echo))
            self.same(reckon.mirror(crossed(one, other)), crossed(other, one))

    def test_half_of_the_beats(self):
        for beats in itertools.combinations(range(8), 4):
            voice = tuple(int(beat in beats) for beat in range(8))
            self.tells(True, same_echo, voice, the_others(voice))
        self.tells(True, same_echo, (5, -3, 7, -7), the_others((5, -3, 7, -7)))

    def test_silences(self):
        chance = a_chance(651)
        for size in (1, 2, 3, 4, 6, 8, 9, 12):
            for _ in range(6):
                one, other = some_room(chance, size), some_room(chance, size)
                self.same(reckon.silences(echo_of(one)), reckon.silences(one))
                both = tuple(sorted(set(reckon.silences(one)) | set(reckon.silences(other))))
                self.same(reckon.silences(crossed(one, other)), both)


class Refused(BeatTest):
    def test_others(self):
        for call in (crossed, same_echo, mixed_pair):
            for thing in no_voices_of(6) + (Voice(*PAIR), PAIR[:5]):
                self.refused("other", call, STEP, thing)
            self.refused("other", call, (1,), (1, 0))

    def test_voices_of_strokes(self):
        for thing in NO_VOICES + ((2, 0), (0, -1), (1, 0, 2), (1, True), Voice(1, 0)):
            self.refused("voice", intervals_of, thing)

    def test_named(self):
        self.same(echo_of(voice=(1, 2)), (5, 4))
        self.same(crossed(other=STEP, one=THIRDS), (1,) * 6)
        self.assertIs(same_echo(other=PAIR, one=PAIR), True)
        self.same(mixed_pair(other=(0, 1, 0), one=(1, 2, 3)), ((3, 1, 2), (2, 3, 1)))
        self.same(intervals_of(voice=(1, 1)), (1,))
        self.same(the_others(voice=(1, 1)), (0, 0))


if __name__ == "__main__":
    unittest.main()
