"""[2] to [4], [8], [11] and [13]: which values are integers, numbers, primes, voices and the like."""

import unittest

from silentbeats import kinds
from tests.base import NO_INTEGERS, NO_SIZES, NO_VOICES, BeatTest
from tests.reckon import common, divisors


class Integers(BeatTest):
    def test_integers(self):
        for thing in (0, 1, -1, 10 ** 60 - 1, -(10 ** 60 - 1)):
            self.tells(True, kinds.is_integer, thing)
        for thing in NO_INTEGERS:
            self.tells(False, kinds.is_integer, thing)

    def test_numbers(self):
        for thing in (0, 1, 2, 10 ** 60 - 1):
            self.tells(True, kinds.is_number, thing)
        for thing in NO_INTEGERS + (-1, -2, -(10 ** 59)):
            self.tells(False, kinds.is_number, thing)


class Primes(BeatTest):
    def test_primes(self):
        for thing in range(-3, 600):
            self.tells(thing > 1 and len(divisors(thing)) == 2, kinds.is_prime, thing)

    def test_prime_powers(self):
        for thing in range(-3, 600):
            primes = [d for d in divisors(thing) if len(divisors(d)) == 2] if thing > 0 else []
            self.tells(len(primes) == 1, kinds.is_prime_power, thing)

    def test_the_limit_of_ten_thousand(self):
        self.tells(True, kinds.is_prime, 9973)
        self.tells(True, kinds.is_prime_power, 8192)
        self.tells(True, kinds.is_prime_power, 9409)
        self.tells(False, kinds.is_prime, 10000)
        self.tells(False, kinds.is_prime_power, 10000)
        for above in (10007, 10009, 10201, 16384, 10 ** 59 + 7, 10 ** 60 - 1):
            self.tells(False, kinds.is_prime, above)
            self.tells(False, kinds.is_prime_power, above)

    def test_other_values(self):
        for thing in NO_INTEGERS + ((2,), [2], "2", "two"):
            self.tells(False, kinds.is_prime, thing)
            self.tells(False, kinds.is_prime_power, thing)


class Voices(BeatTest):
    def test_voices(self):
        for thing in ((0,), (1, -2), (-1001, 10 ** 60 - 1), (0,) * 5000):
            self.tells(True, kinds.is_voice, thing)
        for thing in NO_VOICES + ((1,) * 4999 + (True,),):
            self.tells(False, kinds.is_voice, thing)

    def test_strokes(self):
        for thing in ((0,), (1,), (0, 1, 1), (1,) * 300):
            self.tells(True, kinds.is_strokes, thing)
        for thing in NO_VOICES + ((2,), (-1,), (0, 1, 2), (1, -1), (True, 0), (1, False)):
            self.tells(False, kinds.is_strokes, thing)


class Beats(BeatTest):
    def test_beats(self):
        for size, thing in ((6, ()), (6, (0,)), (6, (0, 5)), (1, (0,)), (1, ()), (10 ** 59, (0, 10 ** 59 - 1))):
            self.tells(True, kinds.is_beats, size, thing)

    def test_no_beats(self):
        for thing in ((6,), (-1,), (-1, 0), (0, 0), (1, 0), (0, 5, 5), [0, 1], [], 0, None, "", "0", True, (True,),
                      (False, 1), (0, True), (0, None), ("0",), ((0,),)):
            self.tells(False, kinds.is_beats, 6, thing)
        self.tells(False, kinds.is_beats, 1, (1,))

    def test_any_size(self):
        for size in NO_SIZES:
            for thing in ((), (0,), None):
                self.tells(False, kinds.is_beats, size, thing)


class Quotients(BeatTest):
    def test_lowest_terms(self):
        for top in range(-12, 13):
            for bottom in range(-6, 13):
                fits = bottom > 0 and common(top, bottom) == 1
                self.tells(fits, kinds.is_quotient, (top, bottom))
        self.tells(True, kinds.is_quotient, (10 ** 59, 10 ** 59 + 1))

    def test_other_values(self):
        for thing in NO_INTEGERS + (0, 1, (1, 2, 3), [1, 2], (True, 2), (1, True), (False, 1), ("1", 2), (1, None),
                                    ((1, 2), 1), "1/2"):
            self.tells(False, kinds.is_quotient, thing)


class Patterns(BeatTest):
    def test_patterns(self):
        for thing in ((0,), (0, 1), (0, 1, 4, 5), (0, 10 ** 59), tuple(range(200))):
            self.tells(True, kinds.is_pattern, thing)
        for thing in NO_INTEGERS + (0, (1, 3), (-1, 0), (0, 0), (0, 2, 1), [0, 1], (False,), (False, 1), (0, True),
                                    (0, None), (0, "1"), (0, 1, 1), (1, 0)):
            self.tells(False, kinds.is_pattern, thing)

    def test_deep_and_long_values(self):
        deep = ()
        for _ in range(29):
            deep = (deep,)
        names = ("is_integer", "is_number", "is_prime", "is_prime_power", "is_voice", "is_strokes", "is_quotient",
                 "is_pattern")
        for thing in (deep, [deep], (deep,) * 2, "x" * 4000, ["a"] * 5000, "a\nb"):
            for name in names:
                self.tells(False, getattr(kinds, name), thing)
            self.tells(False, kinds.is_beats, 6, thing)
            self.tells(False, kinds.is_beats, thing, ())


if __name__ == "__main__":
    unittest.main()
