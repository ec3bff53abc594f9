"""[72]: the class Echo."""

import itertools
import unittest

from silentbeats.echoclasses import Echo
from silentbeats.voiceclasses import Voice
from tests import reckon
from tests.base import NO_VOICES, PAIR, STEP, THIRDS, BeatTest, no_voices_of, shown
from tests.test_echoes import some_pairs
from tests.test_kin import first_step

ONE, TWIN = (1, 1, 0, 1, 1, 0, 0, 0), (1, 1, 1, 0, 0, 1, 0, 0)


class Derived(Echo):
    """A derived class."""


class EchoTest(BeatTest):
    def is_one(self, found, voice):
        self.assertIs(type(found), Echo)
        self.same((found.voice_now, found.echo_now), (voice, reckon.echo(voice)))

    def test_properties_and_items(self):
        for voice, _ in some_pairs(720):
            echo = reckon.echo(voice)
            for it in (Echo(voice), Derived(voice)):
                self.same((it.voice_now, it.echo_now, len(it)), (voice, echo, len(voice)))
                self.same([it[k] for k in range(len(voice))], list(echo))
                self.same(list(it), list(echo))
            self.same([(a, b) for a in it for b in it], list(itertools.product(echo, echo)))
        self.same(Echo(voice=(1, 2)).echo_now, (5, 4))

    def test_refused(self):
        for kind in (Echo, Derived):
            for thing in NO_VOICES + (Voice(1, 0), Echo((1,))):
                self.refused("voice", kind, thing)
        it = Echo(STEP)
        for thing in (6, 7, -1, True, False, None, "0", "k", (), (0,), [0], 10 ** 59):
            self.refused("k", it.__getitem__, thing)
            self.refused("k", lambda: it[thing])

    def test_contains(self):
        for size in range(1, 6):
            voices = list(itertools.product((-1, 0, 1), repeat=size))
            for one in voices[::7]:
                it = Echo(one)
                for other in voices:
                    self.assertIs(other in it, reckon.echo(one) == reckon.echo(other))
        self.assertIs(TWIN in Echo(ONE), True)
        for thing in no_voices_of(6) + (Echo(STEP), Voice(*STEP), STEP + STEP, list(STEP), 2, (2, 1)):
            self.assertIs(thing in Echo(STEP), False)
        self.assertIs((True, 1, 0, 0, 0, 0) in Echo(STEP), False)
        self.assertIs((1,) in Echo((1, 0)), False)
        self.assertIs((1, 0) in Echo((1,)), False)

    def test_equality(self):
        it = Echo(ONE)
        for other in (Echo(ONE), Echo(TWIN), Derived(TWIN), Echo(tuple(-weight for weight in ONE))):
            self.assertIs(it == other, True)
            self.assertIs(other == it, True)
            self.assertIs(it != other, False)
        for other in (Echo(ONE + ONE), Echo((1,) * 8), ONE, reckon.echo(ONE), Voice(*ONE), None, True, "", 4):
            self.assertIs(it == other, False)
            self.assertIs(it != other, True)

    def test_products(self):
        for one, other in some_pairs(721):
            self.is_one(Echo(one) * Derived(other), reckon.around(one, other))
            self.is_one(Derived(one) * Echo(other), reckon.around(one, other))
            self.same((Echo(one) * Echo(other)).echo_now, reckon.around(reckon.echo(one), reckon.echo(other)))

    def test_the_others(self):
        for one, _ in some_pairs(722):
            self.is_one(~Derived(one), tuple(1 - weight for weight in one))
        self.assertIs(~Echo(ONE) == Echo(ONE), True)

    def test_kin_with(self):
        for one, other in some_pairs(723):
            for each in (other, reckon.later(one, 1), reckon.later(reckon.mirror(one), 2)):
                self.tells(first_step(one, each), Echo(one).kin_with, Derived(each))
        self.tells(None, Echo(ONE).kin_with, Echo(TWIN))
        self.same(Echo(STEP).kin_with(other=Echo(STEP)), ("turned", 0))

    def test_others_refused(self):
        it = Echo(STEP)
        for thing in (None, True, 1, "", STEP, [], Voice(*STEP), Echo((1, 0)), Echo(STEP + STEP), Derived((1,))):
            self.refused("other", it.kin_with, thing)
            self.refused("other", it.__mul__, thing)
            self.refused("other", lambda: it * thing)

    def test_nothing_changes_it(self):
        it, other = Echo(STEP), Echo(PAIR)
        before = shown((it, other))
        for _ in range(2):
            told = (list(it), it[1], len(it), THIRDS in it, it == other, (it * other).voice_now, (~it).voice_now,
                    it.kin_with(other))
            self.assertEqual(shown((it, other)), before)
            self.refused("other", it.kin_with, None)
            self.refused("k", lambda: it[6])
            self.assertEqual(shown((it, other)), before)
        self.same(told, ([2, 1, 0, 0, 0, 1], 1, 6, False, False, (1, 1, 0, 1, 1, 0), (0, 0, 1, 1, 1, 1), None))


if __name__ == "__main__":
    unittest.main()
