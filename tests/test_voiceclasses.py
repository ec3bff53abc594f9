"""[21]: the classes Voice and Strokes."""

import unittest

from silentbeats.voiceclasses import Strokes, Voice
from silentbeats.voices import beats_of, mirrored, power_of, turned
from silentbeats.voicetexts import voice_line
from tests.base import NO_INTEGERS, NO_NUMBERS, NO_SIZES, PAIR, STEP, BeatTest, a_chance, shown, some_voice
from tests.reckon import around

NO_PARTNERS = (True, None, "", "1", (), (1, 2, 3), [1, 2, 3], (1,), "voice 1 2 3")


class Named(Voice):
    """A derived class with a construction of its own."""

    def __init__(self, name, *weights):
        super().__init__(*weights)
        self.name = name


class Marked(Strokes):
    """A class derived from Strokes."""


class ObjectTest(BeatTest):
    def plain(self, found, weights):
        """It is of the class Voice itself, and has these weights."""
        self.assertIs(type(found), Voice)
        self.same(found.voice_now, weights)

    def strokes(self, found, weights):
        self.assertIs(type(found), Strokes)
        self.same(found.voice_now, weights)


class Voices(ObjectTest):
    def test_properties(self):
        one = Voice(0, -2, 0, 5)
        self.same((one.voice_now, one.size_now, one.total_now, one.beats_now), ((0, -2, 0, 5), 4, 3, (1, 3)))
        one = Voice(0)
        self.same((one.voice_now, one.size_now, one.total_now, one.beats_now), ((0,), 1, 0, ()))

    def test_construction_refused(self):
        self.refused("weights", Voice, at=0)
        for thing in NO_INTEGERS:
            self.refused("weights", Voice, thing, at=0)
            self.refused("weights", Voice, 1, 2, thing, 3, thing, at=2)
        self.refused("weights", Voice, 1, Voice(1), at=1)

    def test_weight_at(self):
        one = Voice(4, 5, 6)
        self.same([one[beat] for beat in range(3)], [4, 5, 6])
        for thing in NO_INTEGERS + (-1, 3, 10 ** 59, -3):
            self.refused("beat", lambda at: one[at], thing)

    def test_turned(self):
        chance = a_chance(210)
        for size in range(1, 7):
            voice = some_voice(chance, size)
            for k in (-size - 1, -1, 0, 1, size, 10 ** 20):
                self.plain(Voice(*voice)(k), turned(voice, k))
        for thing in NO_INTEGERS:
            self.refused("k", Voice(1, 2), thing)

    def test_contains(self):
        one = Voice(3, 0, -1, 0)
        self.same([beat in one for beat in range(-1, 5)], [False, True, False, True, False, False])
        for thing in NO_INTEGERS + (Voice(0), one):
            self.assertIs(thing in one, False)
        self.assertIs(True in Voice(0, 1), False)
        self.assertIs(1 in Voice(0, 1), True)

    def test_iterated(self):
        one = Voice(3, 0, -1)
        self.same((len(one), list(one), tuple(one), sum(one)), (3, [3, 0, -1], (3, 0, -1), 2))
        pairs = [(a, b) for a in one for b in one]
        self.assertEqual(len(pairs), 9)
        self.assertEqual(pairs[:4], [(3, 3), (3, 0), (3, -1), (0, 3)])

    def test_str(self):
        for voice in ((0,), (1, 0, -2), (10 ** 60,)):
            self.same(str(Voice(*voice)), voice_line(voice))
            self.same(str(Named("a", *voice)), voice_line(voice))

    def test_equality(self):
        one = Voice(*PAIR)
        for other in (Voice(*PAIR), Strokes(6, 0, 3), Named("b", *PAIR), Marked(6, 3, 0), one):
            self.assertIs(one == other, True)
            self.assertIs(other == one, True)
            self.assertIs(one != other, False)
        for other in (Voice(*STEP), Voice(1, 0, 0), PAIR, list(PAIR), None, True, "voice 1 0 0 1 0 0", 1):
            self.assertIs(one == other, False)
            self.assertIs(other == one, False)
            self.assertIs(one != other, True)

    def test_sums_and_products(self):
        chance = a_chance(211)
        for size in range(1, 8):
            one, other, k = some_voice(chance, size), some_voice(chance, size), chance.randint(-4, 4)
            for first in (Voice(*one), Named("a", *one)):
                for second in (Voice(*other), Named("b", *other)):
                    self.plain(first + second, tuple(a + b for a, b in zip(one, other)))
                    self.plain(first - second, tuple(a - b for a, b in zip(one, other)))
                    self.plain(first * second, around(one, other))
                self.plain(first * k, tuple(a * k for a in one))
                self.plain(-first, tuple(-a for a in one))
                self.plain(~first, mirrored(one))
                for many in range(4):
                    self.plain(first ** many, power_of(one, many))
                self.same(first.voice_now, one)

    def test_partners_refused(self):
        one = Voice(1, 2, 3)
        for thing in NO_PARTNERS + (Voice(1, 2), Voice(1, 2, 3, 4), Strokes(2)):
            for call in (lambda x: one + x, lambda x: one - x, lambda x: one * x):
                self.refused("other", call, thing)
        for thing in (0, 1, -2):
            self.refused("other", lambda x: one + x, thing)
            self.refused("other", lambda x: one - x, thing)
        for thing in NO_NUMBERS:
            self.refused("many", lambda x: one ** x, thing)
        self.same(one.voice_now, (1, 2, 3))

    def test_of_and_read(self):
        self.plain(Voice.of((1, -2)), (1, -2))
        self.plain(Voice.read("voice 1 -2"), (1, -2))
        for thing in (None, True, 1, "", (), [1, 2], "voice 1", Voice(1)):
            self.unfit("shape", -1, Voice.of, thing)
        self.unfit("weight", 1, Voice.of, (1, True, None))
        self.refused("text", Voice.read, (1, 2))
        self.unread(2, Voice.read, "voice 1 01")
        self.unread(0, Voice.read, "")

    def test_it_never_changes(self):
        one = Voice(1, 2, 3)
        other = one
        other += Voice(1, 1, 1)
        other *= 2
        self.same((one.voice_now, other.voice_now), ((1, 2, 3), (4, 6, 8)))
        before = shown((one, other))
        for _ in range(2):
            for call in (lambda: one + other, lambda: one - other, lambda: one * other, lambda: one * 5, lambda: -one,
                         lambda: ~one, lambda: one ** 3, lambda: one(1), lambda: one[1], lambda: 1 in one,
                         lambda: str(one), lambda: one == other, lambda: list(one), lambda: one.beats_now):
                self.assertEqual(shown(call()), shown(call()))
                self.assertEqual(shown((one, other)), before)
        with self.assertRaises(TypeError):
            one[0] = 5
        with self.assertRaises(AttributeError):
            one.voice_now = (1,)


class StrokesOfBeats(ObjectTest):
    def test_construction(self):
        self.strokes(Strokes(6, 3, 0), PAIR)
        self.strokes(Strokes(4), (0, 0, 0, 0))
        self.strokes(Strokes(3, 2, 0, 1), (1, 1, 1))
        self.same(Strokes(5, 4, 1).beats_now, (1, 4))
        self.same((Strokes(5, 4).size_now, Strokes(5, 4, 2).total_now), (5, 2))

    def test_construction_refused(self):
        for size in NO_SIZES:
            self.refused("size", Strokes, size)
            self.refused("size", Strokes, size, None)
        for thing in NO_INTEGERS + (-1, 6, 10 ** 59):
            self.refused("beats", Strokes, 6, thing, at=0)
            self.refused("beats", Strokes, 6, 5, 0, thing, thing, at=2)
        self.refused("beats", Strokes, 6, 1, 1, at=1)
        self.refused("beats", Strokes, 6, 1, 2, 3, 2, 1, at=3)
        self.refused("beats", Strokes, 6, 1, 6, 1, at=1)

    def test_either_and_both(self):
        for left in range(16):
            for right in range(16):
                one = Strokes(4, *[k for k in range(4) if left >> k & 1])
                other = Marked(4, *[k for k in range(4) if right >> k & 1])
                self.strokes(one | other, tuple((left | right) >> k & 1 for k in range(4)))
                self.strokes(one & other, tuple((left & right) >> k & 1 for k in range(4)))
                self.strokes(other | one, tuple((left | right) >> k & 1 for k in range(4)))
                self.strokes(other.others(), tuple(1 - (right >> k & 1) for k in range(4)))

    def test_it_never_changes(self):
        one, other = Strokes(4, 3, 0), Strokes(4, 1, 0)
        before = shown((one, other))
        for _ in range(2):
            for call in (lambda: one | other, lambda: one & other, one.others, lambda: one * other):
                self.assertEqual(shown(call()), shown(call()))
                self.assertEqual(shown((one, other)), before)

    def test_partners_refused(self):
        one = Strokes(3, 1)
        for thing in NO_PARTNERS + (0, 1, Voice(0, 1, 0), Strokes(2, 1), Strokes(4)):
            self.refused("other", lambda x: one | x, thing)
            self.refused("other", lambda x: one & x, thing)

    def test_it_is_a_voice(self):
        one, other = Strokes(6, 3, 0), Voice(*STEP)
        self.assertIsInstance(one, Voice)
        self.plain(one + one, (2, 0, 0, 2, 0, 0))
        self.plain(one - one, (0,) * 6)
        self.plain(one * other, (1, 1, 0, 1, 1, 0))
        self.plain(other * one, (1, 1, 0, 1, 1, 0))
        self.plain(one * 3, (3, 0, 0, 3, 0, 0))
        self.plain(-one, (-1, 0, 0, -1, 0, 0))
        self.plain(~one, PAIR)
        self.plain(one ** 0, (1, 0, 0, 0, 0, 0))
        self.plain(one(1), (0, 1, 0, 0, 1, 0))
        self.same((str(one), list(one), len(one), one[3], 3 in one, one.beats_now), (
            "voice 1 0 0 1 0 0", list(PAIR), 6, 1, True, beats_of(PAIR)))


if __name__ == "__main__":
    unittest.main()
