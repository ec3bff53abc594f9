"""[70] and [71], (G5): papers on voices with one echo, and their judge."""

import itertools
import unittest

from silentbeats.kinchecker import lets_kin
from silentbeats.kinpapers import kin_paper
from silentbeats.silences import silent_voice
from silentbeats.voiceclasses import Voice
from tests import reckon
from tests.base import ALL, NO_SIZES, PAIR, STEP, THIRDS, BeatTest, a_chance, no_voices_of, some_room, some_voice
from tests.test_kin import first_step
from tests.test_twins import strokes_by_echo

ONE, TWIN = (1, 1, 0, 1, 1, 0, 0, 0), (1, 1, 1, 0, 0, 1, 0, 0)
THREE, OTHER = (3, 0, 0, 0, 0, 0), (0, 2, 0, -1, 0, 2)
MIXED = ("mixed", 1, 3, 3, (1, 0, -2, 0, 4, 0), (1, 0, 2, 0, 0, 0))


def times(voice, many):
    return tuple(many * weight for weight in voice)


class Papers(BeatTest):
    def check(self, one, other):
        """Whether the paper of both is right, by plain reckoning and by the judge."""
        paper = kin_paper(one, other)
        self.tells(paper, kin_paper, one, other)
        alike = reckon.echo(one) == reckon.echo(other)
        step = first_step(one, other)
        if not alike:
            word, k = paper
            self.assertEqual(word, "unlike")
            self.assertNotEqual(reckon.echo(one)[k], reckon.echo(other)[k])
        elif step is not None:
            word, k = paper
            self.assertIn(word, ("turned", "mirrored"))
            self.same(reckon.later(one if word == "turned" else reckon.mirror(one), k), other)
        else:
            self.check_mixed(one, other, paper)
        self.tells(alike, lets_kin, one, other, paper)
        return paper[0]

    def check_mixed(self, one, other, paper):
        word, sign, turn, many, u, v = paper
        self.assertEqual(word, "mixed")
        self.assertIn(repr(sign), ("1", "-1"))
        self.assertTrue(0 <= turn < len(one) and many >= 1)
        self.assertTrue(all(type(weight) is int for weight in u + v) and len(u) == len(v) == len(one))
        self.same(reckon.around(u, v), times(one, many))
        self.same(reckon.across(u, v), times(reckon.later(other, turn), sign * many))

    def test_voices_by_chance(self):
        chance = a_chance(700)
        for size in list(range(1, 17)) * 2:
            one, other = some_voice(chance, size), some_voice(chance, size)
            self.check(one, other)
            self.check(one, reckon.later(one, chance.randint(0, size)))
            self.check(one, reckon.later(reckon.mirror(one), chance.randint(0, size)))
            self.check(one, times(one, -1))

    def test_mixed_voices(self):
        chance = a_chance(701)
        words = []
        for size in list(range(3, 17)) * 2:
            for u in (some_voice(chance, size, -2, 2), some_room(chance, size), some_voice(chance, size, 0, 1)):
                v = some_voice(chance, size, -2, 2)
                one, other = reckon.around(u, v), reckon.across(u, v)
                for sign in (1, -1):
                    words.append(self.check(one, times(reckon.later(other, chance.randint(0, size)), sign)))
        self.assertGreater(words.count("mixed"), 100)

    def test_all_small_voices(self):
        mixed = 0
        for size, weights in ((1, (-2, -1, 0, 1, 2)), (2, (-2, -1, 0, 1, 2)), (3, (-2, -1, 0, 1, 2)), (4, (-1, 0, 1)),
                              (5, (-1, 0, 1)), (6, (-1, 0, 1))):
            echoes = {}
            for voice in itertools.product(weights, repeat=size):
                echoes.setdefault(reckon.echo(voice), []).append(voice)
            for voices in echoes.values():
                mixed += [self.check(voices[0], other) for other in voices[:12] + voices[-6:]].count("mixed")
        self.assertGreater(mixed, 100)

    def test_twins_of_strokes(self):
        mixed = 0
        for size in range(1, 11):
            for voices in strokes_by_echo(size).values():
                for one, other in itertools.permutations(voices, 2):
                    self.assertEqual(self.check(one, other), "mixed")
                    mixed += 1
        self.assertGreater(mixed, 4)

    def test_signs_and_turns(self):
        """Mirrors have the same rests at 1 and 2, so that signs and turns alone lead from one to another there."""
        chance = a_chance(702)
        for size in (6, 8, 12, 16):
            for divisors in ((), (1,), (2,), (1, 2), (size,)):
                u = reckon.around(silent_voice(size, divisors), some_voice(chance, size))
                v = some_voice(chance, size)
                one, other = reckon.around(u, v), reckon.across(u, v)
                for sign, turn in itertools.product((1, -1), (0, 1, 2)):
                    self.check(one, times(reckon.later(other, turn), sign))

    def test_opposite_parts(self):
        """Voices that are each other times -1 at some divisors, and the same at others."""
        chance = a_chance(703)
        for size in (3, 4, 5, 6, 7, 8, 9, 12, 15, 16):
            for _ in range(4):
                divisors = [d for d in reckon.divisors(size) if d > 2 and chance.random() < 0.6] or [size]
                others = tuple(d for d in reckon.divisors(size) if d not in divisors)
                here = reckon.around(some_voice(chance, size), silent_voice(size, others))
                beside = reckon.around(some_voice(chance, size), silent_voice(size, tuple(divisors)))
                one = tuple(a + b for a, b in zip(here, beside))
                other = tuple(b - a for a, b in zip(here, beside))
                self.assertEqual(reckon.echo(one), reckon.echo(other))
                self.check(one, other)

    def test_no_kin(self):
        self.assertEqual(kin_paper(ONE, TWIN)[0], "mixed")
        self.assertEqual(kin_paper(THREE, OTHER)[0], "mixed")
        self.assertEqual(kin_paper(STEP, PAIR)[0], "unlike")
        self.same(kin_paper((0,), (0,)), ("turned", 0))
        self.same(kin_paper((2,), (3,)), ("unlike", 0))
        self.check((2,), (-2,))
        self.check((2, 1), (-1, -2))
        self.check((50,) * 15 + (-50,), (-50,) * 15 + (50,))

    def test_refused(self):
        for thing in no_voices_of(6) + (Voice(*STEP),):
            self.refused("other", kin_paper, STEP, thing)
            for paper in (None, ("turned", 0), ()):
                self.refused("other", lets_kin, STEP, thing, paper)
        self.same(kin_paper(other=STEP, one=STEP), ("turned", 0))
        self.assertIs(lets_kin(thing=("turned", 0), other=STEP, one=STEP), True)


class Judge(BeatTest):
    def test_right_papers_by_hand(self):
        self.tells(True, lets_kin, THREE, OTHER, MIXED)
        self.tells(True, lets_kin, STEP, (0, 0, 1, 1, 0, 0), ("turned", 2))
        self.tells(True, lets_kin, PAIR, PAIR, ("turned", 3))
        self.tells(True, lets_kin, STEP, STEP, ("mirrored", 1))
        self.tells(True, lets_kin, (1, 2, 0, 0), (2, 1, 0, 0), ("mirrored", 1))
        self.tells(False, lets_kin, STEP, PAIR, ("unlike", 1))
        self.tells(False, lets_kin, STEP, PAIR, ("unlike", 3))
        self.tells(False, lets_kin, STEP, PAIR, ("unlike", 5))
        self.tells(True, lets_kin, STEP, STEP, ("mixed", 1, 0, 1, STEP, (1, 0, 0, 0, 0, 0)))
        self.tells(True, lets_kin, STEP, STEP, ("mixed", 1, 0, 7, times(STEP, -7), (-1, 0, 0, 0, 0, 0)))
        self.tells(True, lets_kin, STEP, times(STEP, -1), ("mixed", -1, 0, 2, STEP, (2, 0, 0, 0, 0, 0)))
        self.tells(True, lets_kin, (0,), (0,), ("mixed", -1, 0, 5, (0,), (9,)))
        self.tells(True, lets_kin, (-3,), (3,), ("mixed", -1, 0, 1, (3,), (-1,)))
        # Limits of clocks are not those of papers.
        self.tells(True, lets_kin, (1, 2) + (0,) * 38, (2, 1) + (0,) * 38, ("mirrored", 1))

    def test_shape(self):
        for thing in (
            None, True, 0, 1, "", "turned", (), [], ("turned",), ("mirrored",), ("unlike",), ("mixed",), ["turned", 0],
            ("turned", 0, 0), ("unlike", 0, 1), ("Turned", 0), (("turned",), 0), (None, 0), (True, 0), (0, 0),
            MIXED[:5], MIXED + (0,), list(MIXED), MIXED[1:], ("turned",) + MIXED[1:], ("mixed", 0), ((), ()),
        ):
            self.unfit("shape", -1, lets_kin, STEP, STEP, thing)
            self.unfit("shape", -1, lets_kin, STEP, PAIR, thing)

    def test_k(self):
        for k in (6, 7, -1, True, False, None, "0", (0,), [0], 10 ** 59):
            for word in ("turned", "mirrored", "unlike"):
                self.unfit("k", -1, lets_kin, STEP, STEP, (word, k))
                self.unfit("k", -1, lets_kin, STEP, PAIR, (word, k))

    def test_turned_and_mirrored(self):
        for word, voice in (("turned", STEP), ("mirrored", (1, 0, 0, 0, 0, 1))):
            for k in range(6):
                for other in (STEP, PAIR, THIRDS, ALL, (0, 0, 0, 0, 1, 1), (0, 0, 0, 1, 1, 0)):
                    wrong = [beat for beat in range(6) if reckon.later(voice, k)[beat] != other[beat]]
                    if wrong:
                        self.unfit(word, wrong[0], lets_kin, STEP, other, (word, k))
                    else:
                        self.tells(True, lets_kin, STEP, other, (word, k))
        self.unfit("turned", 5, lets_kin, (1, 2, 3, 4, 5, 6), (1, 2, 3, 4, 5, 7), ("turned", 0))

    def test_unlike(self):
        for k in range(6):
            self.unfit("unlike", -1, lets_kin, STEP, STEP, ("unlike", k))
        for k in (0, 2, 4):
            self.unfit("unlike", -1, lets_kin, STEP, PAIR, ("unlike", k))
        for k in range(8):
            self.unfit("unlike", -1, lets_kin, ONE, TWIN, ("unlike", k))

    def test_mixed_values(self):
        def wrong(place, thing):
            return MIXED[:place] + (thing,) + MIXED[place + 1:]

        for thing in (0, 2, -2, True, False, None, "1", (1,), [1]):
            self.unfit("sign", -1, lets_kin, THREE, OTHER, wrong(1, thing))
        for thing in (6, -1, True, None, "3", (3,)):
            self.unfit("turn", -1, lets_kin, THREE, OTHER, wrong(2, thing))
        for thing in NO_SIZES:
            self.unfit("many", -1, lets_kin, THREE, OTHER, wrong(3, thing))
        for thing in no_voices_of(6) + (Voice(*STEP), STEP[:5]):
            self.unfit("u", -1, lets_kin, THREE, OTHER, wrong(4, thing))
            self.unfit("v", -1, lets_kin, THREE, OTHER, wrong(5, thing))

    def test_order_of_mixed_values(self):
        right = MIXED[1:]
        words = ("sign", "turn", "many", "u", "v")
        for k, word in enumerate(words):
            self.unfit(word, -1, lets_kin, THREE, OTHER, ("mixed",) + right[:k] + (None,) * (5 - k))

    def test_product_and_crossed(self):
        word, sign, turn, many, u, v = MIXED
        self.unfit("product", 0, lets_kin, THREE, OTHER, (word, sign, turn, 2, u, v))
        for beat in range(6):
            one = tuple(weight + int(k >= beat) for k, weight in enumerate(THREE))
            self.unfit("product", beat, lets_kin, one, OTHER, MIXED)
            other = reckon.later(tuple(weight + int(k >= beat) for k, weight in enumerate(reckon.later(OTHER, 3))), 3)
            self.unfit("crossed", beat, lets_kin, THREE, other, MIXED)
        self.unfit("crossed", 0, lets_kin, THREE, OTHER, (word, -1, turn, many, u, v))
        self.unfit("crossed", 0, lets_kin, THREE, OTHER, (word, sign, 0, many, u, v))
        self.unfit("product", 0, lets_kin, PAIR, STEP, (word, sign, turn, many, u, v))
        self.unfit("crossed", 1, lets_kin, PAIR, STEP, ("mixed", 1, 0, 1, PAIR, (1, 0, 0, 0, 0, 0)))


if __name__ == "__main__":
    unittest.main()
