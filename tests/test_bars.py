"""[10] (G3) and [49]: voices of no plain heap, and how many strokes there can be."""

import itertools
import unittest

from silentbeats.bars import bar_voice, stroke_counts, stroke_heaps
from silentbeats.heaps import is_heap
from tests import reckon
from tests.base import NO_NUMBERS, NO_SIZES, BeatTest
from tests.test_heaps import has_heap


class BarVoice(BeatTest):
    def test_all_sizes(self):
        for size in range(1, 121):
            primes = reckon.primes(size)
            if len(primes) < 3:
                self.tells(None, bar_voice, size)
                continue
            p, q, r = primes[:3]
            beats = {k * size // r for k in range(1, r)}
            beats |= {(j * size // p + k * size // q) % size for j in range(1, p) for k in range(1, q)}
            self.tells(tuple(int(beat in beats) for beat in range(size)), bar_voice, size)

    def test_silent_and_of_no_plain_heap(self):
        for size in (30, 42, 60, 70, 105, 110):
            voice = bar_voice(size)
            self.assertTrue(reckon.silent(voice, size))
            self.assertFalse(has_heap(voice, {}))
            self.assertIs(is_heap(voice), False)

    def test_four_primes(self):
        beats = [beat for beat, weight in enumerate(bar_voice(210)) if weight]
        self.assertEqual(beats, sorted([42, 84, 126, 168, (105 + 70) % 210, (105 + 140) % 210]))

    def test_refused(self):
        for size in NO_SIZES:
            self.refused("size", bar_voice, size)


class StrokeCounts(BeatTest):
    def test_against_all_voices(self):
        for size, most in ((1, 4), (2, 7), (3, 7), (4, 6), (5, 6), (6, 5), (8, 4), (10, 4)):
            found = {sum(voice) for voice in voices_of(size, most) if reckon.silent(voice, size)}
            self.tells(tuple(sorted(found)), stroke_counts, size, most)

    def test_sums_of_primes(self):
        for size in range(1, 111):
            primes = reckon.primes(size)
            told = [total for total in range(41) if is_sum_of(primes, total)]
            expected = None if len(primes) > 2 and size % 6 != 0 else tuple(told)
            self.tells(expected, stroke_counts, size, 40)

    def test_edges(self):
        self.tells((0,), stroke_counts, 1, 0)
        self.tells((0,), stroke_counts, 1, 1000)
        self.tells((0,), stroke_counts, 6, 0)
        self.tells((0,), stroke_counts, 6, 1)
        self.tells((0, 2), stroke_counts, 6, 2)
        self.tells((0,), stroke_counts, 7, 6)
        self.tells((0, 7), stroke_counts, 7, 7)
        self.tells((0, 2, 3), stroke_counts, 30, 3)
        self.tells(None, stroke_counts, 105, 0)
        self.tells(None, stroke_counts, 70, 1000)
        self.tells((0,) + tuple(range(2, 1001)), stroke_counts, 90, 1000)
        self.tells((0, 5, 7, 10, 12, 14, 15, 17, 19, 20, 21, 22), stroke_counts, 35, 22)

    def test_refused(self):
        for size in NO_SIZES:
            self.refused("size", stroke_counts, size, None)
            self.refused("size", stroke_heaps, size)
        for most in NO_NUMBERS:
            self.refused("most", stroke_counts, 6, most)
            self.refused("most", stroke_counts, 70, most)


class StrokeHeaps(BeatTest):
    def test_against_all_voices_of_strokes(self):
        for size in (1, 2, 3, 4, 5, 6, 7, 8, 9, 10, 12):
            found = {sum(voice) for voice in itertools.product((0, 1), repeat=size) if reckon.silent(voice, size)}
            self.tells(tuple(sorted(found)), stroke_heaps, size)

    def test_coset_by_coset(self):
        for size in range(1, 111):
            primes = reckon.primes(size)
            if len(primes) > 2:
                self.tells(None, stroke_heaps, size)
                continue
            full = 1
            for prime in primes:
                full *= prime
            once = {many for many in range(full + 1) if many == 0 or any(many % prime == 0 for prime in primes)}
            found = {0}
            for _ in range(size // full):
                found = {one + many for one in found for many in once} if primes else found
            self.tells(tuple(sorted(found)), stroke_heaps, size)

    def test_edges(self):
        self.tells((0,), stroke_heaps, 1)
        self.tells((0, 2), stroke_heaps, 2)
        self.tells(tuple(range(0, 65, 2)), stroke_heaps, 64)
        self.tells((0, 3, 5, 6, 9, 10, 12, 15), stroke_heaps, 15)
        self.tells(None, stroke_heaps, 30)
        self.same(stroke_heaps(size=4), (0, 2, 4))


def voices_of(size, most):
    """All voices of this size with a total up to most, without weights below 0."""
    if size == 0:
        yield ()
        return
    for weight in range(most + 1):
        for rest in voices_of(size - 1, most - weight):
            yield (weight,) + rest


def is_sum_of(primes, total):
    if total == 0:
        return True
    return any(total >= prime and is_sum_of(primes, total - prime) for prime in primes)


if __name__ == "__main__":
    unittest.main()
