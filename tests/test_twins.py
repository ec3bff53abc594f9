"""[66], [68] and [69]: voices of strokes that share an echo, and flat voices."""

import itertools
import unittest
from functools import lru_cache

from silentbeats.twins import flat_pair, flat_strokes, kin_classes, strokes_with, twins_of
from silentbeats.voiceclasses import Voice
from tests import reckon
from tests.base import NO_NUMBERS, NO_SIZES, NO_VOICES, PAIR, STEP, BeatTest, a_chance, some_voice

ONE, TWIN = (1, 1, 0, 1, 1, 0, 0, 0), (1, 1, 1, 0, 0, 1, 0, 0)
FANO = (1, 1, 0, 1, 0, 0, 0)


@lru_cache(maxsize=None)
def strokes_by_echo(size):
    """The least kin of all voices of strokes, ascending, by their echoes."""
    found = {}
    for voice in itertools.product((0, 1), repeat=size):
        found.setdefault(reckon.echo(voice), set()).add(reckon.kin(voice)[0])
    return {echo: tuple(sorted(voices)) for echo, voices in found.items()}


def is_flat(voice):
    return len(set(reckon.echo(voice)[1:])) <= 1


class Twins(BeatTest):
    def test_all_small_clocks(self):
        for size in range(1, 10):
            for echo, voices in strokes_by_echo(size).items():
                self.tells(voices, strokes_with, echo)
                for voice in voices:
                    others = tuple(other for other in voices if other != voice)
                    self.tells(others, twins_of, voice)
                    self.tells(others, twins_of, reckon.kin(voice)[-1])

    def test_twins(self):
        self.tells((reckon.kin(TWIN)[0],), twins_of, ONE)
        self.tells((reckon.kin(ONE)[0],), twins_of, TWIN)
        self.tells((), twins_of, (0,))
        self.tells((), twins_of, (1,))
        self.tells((), twins_of, (1,) * 16)
        self.tells((), twins_of, (0,) * 16)

    def test_great_clocks(self):
        voice = (1, 1, 1, 0, 1, 0, 1, 0, 1, 1, 0, 0, 0, 1, 0, 0)
        found = strokes_with(reckon.echo(voice))
        self.assertIn(reckon.kin(voice)[0], found)
        for each in found:
            self.same(reckon.echo(each), reckon.echo(voice))
            self.same(reckon.kin(each)[0], each)
        self.tells(tuple(each for each in found if each != reckon.kin(voice)[0]), twins_of, voice)
        self.tells(((1,) * 16,), strokes_with, (16,) * 16)

    def test_echoes_of_no_strokes(self):
        chance = a_chance(680)
        for size in range(1, 8):
            known = strokes_by_echo(size)
            for _ in range(30):
                echo = some_voice(chance, size, -1, size)
                self.tells(known.get(echo, ()), strokes_with, echo)
                mirrored = tuple(a + b for a, b in zip(echo, reckon.mirror(echo)))
                self.tells(known.get(mirrored, ()), strokes_with, mirrored)
        for echo in ((1, 1), (0, 1), (0, -1), (-1,), (2,), (3, 0), (-2, 2), (2, 1, 0, 0, 0, 0), (10 ** 59,) * 3,
                     (2, 1, 1, 0, 0), (4, 2, 2, 2, 2), (1, -1, -1), (2, -1, 2, 2, -1)):
            self.tells((), strokes_with, echo)

    def test_kin_classes(self):
        for size in range(1, 10):
            for many in range(size + 1):
                classes = [voices for voices in strokes_by_echo(size).values() if sum(voices[0]) == many]
                self.tells(tuple(sorted(classes)), kin_classes, size, many)
        self.assertEqual(len(kin_classes(12, 6)), len({reckon.echo(v) for v in strokes_of(12, 6)}))
        self.same(kin_classes(12, 0), (((0,) * 12,),))
        self.same(kin_classes(12, 12), (((1,) * 12,),))


def strokes_of(size, many):
    """All voices of so many strokes."""
    return [tuple(int(beat in beats) for beat in range(size)) for beats in itertools.combinations(range(size), many)]


class Flat(BeatTest):
    def test_flat_pairs(self):
        chance = a_chance(681)
        for size in range(1, 9):
            for voice in itertools.product((0, 1), repeat=size):
                self.check_pair(voice)
            for _ in range(20):
                self.check_pair(some_voice(chance, size))
            for spot in (-3, 0, 5):
                self.check_pair((spot,) + (2,) * (size - 1))
        self.tells((9, 0), flat_pair, (-1, 2, 2))
        self.tells((9, 0), flat_pair, (3,))
        self.tells((5, 4), flat_pair, (1, 2))
        self.tells((0, 0), flat_pair, (0,))
        self.tells((0, 0), flat_pair, (0,) * 36)
        self.tells(None, flat_pair, (1, 1, 0, 0))

    def check_pair(self, voice):
        echo = reckon.echo(voice)
        pair = (echo[0], echo[1] if len(echo) > 1 else 0) if is_flat(voice) else None
        self.tells(pair, flat_pair, voice)

    def test_flat_strokes(self):
        for size in range(1, 11):
            for many in range(size + 1):
                voices = {reckon.kin(voice)[0] for voice in strokes_of(size, many) if is_flat(voice)}
                self.tells(tuple(sorted(voices)), flat_strokes, size, many)
        self.tells(((0, 0, 0, 1, 0, 1, 1),), flat_strokes, 7, 3)

    def test_flat_strokes_of_great_clocks(self):
        for size, many, some in ((13, 4, True), (11, 5, True), (15, 7, True), (16, 6, False), (16, 10, False),
                                 (16, 8, False), (16, 1, True), (16, 0, True), (16, 15, True), (16, 16, True)):
            found = flat_strokes(size, many)
            self.assertEqual(found != (), some)
            for voice in found:
                self.assertTrue(is_flat(voice) and sum(voice) == many)
                self.same(reckon.kin(voice)[0], voice)
            self.same(found, tuple(sorted(set(found))))
        voices = {reckon.kin(voice)[0] for voice in strokes_of(13, 4) if is_flat(voice)}
        self.same(flat_strokes(13, 4), tuple(sorted(voices)))

    def test_consequences(self):
        chance = a_chance(690)
        flat = [FANO, (1, 1, 0, 1, 0, 0, 0, 0, 0, 1, 0, 0, 0), (-1, 2, 2), (0, 1, 1, 1, 1), (3, 3), (5,), (-3, 2, 2, 2, 2)]
        for voice in flat + [some_voice(chance, 7) for _ in range(10)]:
            size, pair = len(voice), flat_pair(voice)
            for each in reckon.kin(voice) + [tuple(1 - weight for weight in voice)] + [
                tuple(voice[beat * k % size] for beat in range(size)) for k in range(1, size) if reckon.common(k, size) == 1
            ]:
                self.assertEqual(flat_pair(each) is None, pair is None)
            rests = [reckon.rest(reckon.echo(voice), d) for d in reckon.divisors(size)[1:]]
            firsts = {rest[0] for rest in rests if not any(rest[1:])} | {None for rest in rests if any(rest[1:])}
            self.assertEqual(pair is not None, len(firsts) <= 1 and None not in firsts)
            if pair is not None and size > 1:
                self.assertEqual(firsts, {pair[0] - pair[1]})
                above = [d for d in reckon.silences(voice) if d > 1]
                self.assertIn(above, ([], reckon.divisors(size)[1:]))

    def test_strokes_and_intervals(self):
        for size in range(2, 12):
            for many in range(size + 1):
                for voice in flat_strokes(size, many):
                    own, off = flat_pair(voice)
                    self.assertEqual((own, many * (many - 1)), (many, off * (size - 1)))


class Refused(BeatTest):
    def test_voices(self):
        for thing in NO_VOICES + (Voice(1, 0),):
            self.refused("echo", strokes_with, thing)
            self.refused("voice", twins_of, thing)
        for voice in ((2, 0), (0, -1), (1, 1, 1, 5)):
            self.refused("voice", twins_of, voice)

    def test_sizes_and_manys(self):
        for call in (kin_classes, flat_strokes):
            for size in NO_SIZES:
                self.refused("size", call, size, 0)
                self.refused("size", call, size, None)
            for many in NO_NUMBERS + (5, 6, 10 ** 59):
                self.refused("many", call, 4, many)
            self.refused("many", call, 1, 2)

    def test_named(self):
        self.same(strokes_with(echo=reckon.echo(PAIR)), (reckon.kin(PAIR)[0],))
        self.same(twins_of(voice=STEP), ())
        self.same(kin_classes(many=1, size=2), (((0, 1),),))
        self.same(flat_pair(voice=(1, 0)), (1, 0))
        self.same(flat_strokes(many=1, size=2), ((0, 1),))


if __name__ == "__main__":
    unittest.main()
