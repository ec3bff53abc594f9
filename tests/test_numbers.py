"""[3], [13] and [14]: primes, divisors, totients and power parts of numbers."""

import unittest

from silentbeats.numbers import divisors_of, power_parts, primes_of, totient_of
from tests.base import NO_SIZES, BeatTest
from tests.reckon import common, divisors

FUNCTIONS = (primes_of, divisors_of, totient_of, power_parts)


class Numbers(BeatTest):
    def test_against_trials(self):
        for number in range(1, 220):
            primes = tuple(d for d in divisors(number) if len(divisors(d)) == 2)
            self.tells(tuple(divisors(number)), divisors_of, number)
            self.tells(primes, primes_of, number)
            self.tells(sum(common(k, number) == 1 for k in range(1, number + 1)), totient_of, number)
            parts = tuple(sorted(max(p ** k for k in range(1, 9) if number % p ** k == 0) for p in primes))
            self.tells(parts, power_parts, number)

    def test_one(self):
        self.tells((1,), divisors_of, 1)
        self.tells((), primes_of, 1)
        self.tells(1, totient_of, 1)
        self.tells((), power_parts, 1)

    def test_power_parts_ascend_by_themselves(self):
        self.tells((5, 8, 9), power_parts, 360)
        self.tells((3, 64), power_parts, 192)

    def test_ten_thousand(self):
        self.tells((2, 5), primes_of, 10000)
        self.tells((16, 625), power_parts, 10000)
        self.tells(4000, totient_of, 10000)
        self.tells(tuple(divisors(10000)), divisors_of, 10000)
        self.tells((1, 9973), divisors_of, 9973)
        self.tells(9972, totient_of, 9973)

    def test_one_more_is_refused(self):
        for function in FUNCTIONS:
            for number in (10001, 10007, 10 ** 59):
                self.refused("number", function, number)

    def test_other_values(self):
        for function in FUNCTIONS:
            for thing in NO_SIZES:
                self.refused("number", function, thing)


if __name__ == "__main__":
    unittest.main()
