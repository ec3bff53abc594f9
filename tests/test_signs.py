"""[8], [53] to [55]: the signs of patterns."""

import itertools
import unittest

from silentbeats.signs import fill_word, holds_first, holds_second, signs_of
from tests import reckon
from tests.base import PATTERN, BeatTest, a_chance

SIX, HALF = (0, 1, 2, 3, 4, 5), (0, 1, 2, 3, 5, 7)
NO_PATTERNS = (
    None, True, 0, 1, "", "0", (), [], [0], (1,), (-1, 0), (1, 2), (0, 0), (0, 2, 1), (0, True), (False,), (False, 1),
    (0, None), (0, "1"), (0, (1,)), (0, [1]), ((0,),), (-1,), (0, 1, 1), (None,),
)


def some_pattern(chance, many=12, greatest=40):
    """A pattern within the limits, drawn by chance: at times all sums of two sets, so that it has signs."""
    if chance.random() < 0.4:
        elements = set(chance.sample(range(1, greatest + 1), chance.randint(0, many - 1)))
        return tuple(sorted(elements | {0}))
    parts = chance.choice(((2,), (3,), (2, 2), (2, 3), (4,), (2, 2, 2), (6,), (2, 2, 3), (3, 3), (2, 4), (5,), (2, 5)))
    sums = {0}
    for part in parts:
        step = chance.choice((1, 2, 3, 4, 5, 6, 8, 9, 12))
        sums = {one + k * step for one in sums for k in range(part)}
    found = tuple(sorted(sums))
    return found if len(found) <= many and found[-1] <= greatest else (0,)


def polynomial(pattern):
    return [int(k in pattern) for k in range(pattern[-1] + 1)]


def is_divided(pattern, number):
    """Whether C_number divides the polynomial, by long division with integers: its last one is 1."""
    by, rest = reckon.wheel(number), polynomial(pattern)
    for shift in range(len(rest) - len(by), -1, -1):
        lead = rest[shift + len(by) - 1]
        for k, weight in enumerate(by):
            rest[shift + k] -= lead * weight
    return not any(rest)


def prime_powers(most):
    return [number for number in range(2, most + 1) if len(reckon.primes(number)) == 1]


def signs(pattern):
    """The signs, by division by each wheel of a prime power up to twice the greatest element."""
    return tuple(number for number in prime_powers(2 * pattern[-1] + 2) if is_divided(pattern, number))


def first(pattern):
    many = 1
    for sign in signs(pattern):
        many *= reckon.primes(sign)[0]
    return many == len(pattern)


def second(pattern):
    """Whether (T2) holds, all sets of signs being gone through."""
    found = signs(pattern)
    for many in range(2, len(found) + 1):
        for some in itertools.combinations(found, many):
            product = 1
            for sign in some:
                product *= sign
            if len(reckon.primes(product)) == many and not is_divided(pattern, product):
                return False
    return True


class Signs(BeatTest):
    def check_pattern(self, pattern):
        self.tells(signs(pattern), signs_of, pattern)
        self.tells(first(pattern), holds_first, pattern)
        self.tells(second(pattern), holds_second, pattern)
        self.tells("fills" if first(pattern) and second(pattern) else "never", fill_word, pattern)

    def test_all_small_patterns(self):
        for many in range(0, 10):
            for rest in itertools.combinations(range(1, 10), many):
                self.check_pattern((0,) + rest)

    def test_drawn_by_chance(self):
        chance = a_chance(540)
        told = []
        for _ in range(250):
            pattern = some_pattern(chance)
            self.check_pattern(pattern)
            told.append((len(signs(pattern)), first(pattern), second(pattern)))
        self.assertGreater(len([t for t in told if t[1] and t[2] and t[0] > 1]), 15)
        self.assertGreater(len([t for t in told if not t[1]]), 15)

    def test_edges(self):
        self.check_pattern((0,))
        self.tells((), signs_of, (0,))
        self.tells("fills", fill_word, (0,))
        self.tells((64,), signs_of, (0, 32))
        self.tells((81,), signs_of, (0, 27, 54))
        self.tells((2,), signs_of, (0, 39))
        self.tells((16,), signs_of, (0, 40))
        self.tells((3, 4), signs_of, HALF)
        self.tells((True, False, "never"), lambda p: (holds_first(p), holds_second(p), fill_word(p)), HALF)
        self.tells((False, True, "never"), lambda p: (holds_first(p), holds_second(p), fill_word(p)), (0, 1, 3))

    def test_fails_both(self):
        pattern = (0, 3, 5, 8, 9, 12, 14, 17, 18, 21, 23, 26)
        self.check_pattern(pattern)
        self.same((holds_first(pattern), holds_second(pattern), fill_word(pattern)), (False, False, "never"))

    def test_refused(self):
        for function in (signs_of, holds_first, holds_second, fill_word):
            for thing in NO_PATTERNS:
                self.refused("pattern", function, thing)
        self.same(signs_of(pattern=(0, 1)), (2,))


class Consequences(BeatTest):
    def test_product_of_primes_divides(self):
        chance = a_chance(550)
        for _ in range(60):
            pattern = some_pattern(chance)
            product = 1
            for sign in signs_of(pattern):
                product *= reckon.primes(sign)[0]
                self.assertLessEqual(sign, 2 * pattern[-1])
            self.assertEqual(len(pattern) % product, 0)
            if len(reckon.primes(len(pattern))) <= 1:
                self.assertIs(holds_second(pattern), True)
            mirror = tuple(pattern[-1] - k for k in reversed(pattern))
            self.same((signs_of(mirror), fill_word(mirror)), (signs_of(pattern), fill_word(pattern)))

    def test_pattern_of_the_document(self):
        self.same(signs_of(PATTERN), (2, 8))
        self.same(signs_of(SIX), (2, 3))


if __name__ == "__main__":
    unittest.main()
