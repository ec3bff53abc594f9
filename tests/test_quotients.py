"""[3], [13] and [15]: exact reckoning with quotients."""

import unittest
from fractions import Fraction

from silentbeats.quotients import less, over, products, quotient, sums
from tests.base import NO_INTEGERS, BeatTest, a_chance

NO_QUOTIENTS = NO_INTEGERS + (0, 1, (2, 4), (0, 2), (1, 0), (1, -2), (0, 0), (True, 1), (1, True), [1, 2], (1, 2, 3), "1/2")


def pair(value):
    return (value.numerator, value.denominator)


def some(chance):
    return Fraction(chance.randint(-40, 40), chance.randint(1, 30))


class Quotients(BeatTest):
    def test_quotient(self):
        for top in range(-12, 13):
            for bottom in [*range(-9, 0), *range(1, 10)]:
                self.tells(pair(Fraction(top, bottom)), quotient, top, bottom)
        self.tells((-(10 ** 59), 3), quotient, 2 * 10 ** 59, -6)

    def test_quotient_refuses(self):
        for thing in NO_INTEGERS:
            self.refused("top", quotient, thing, 1)
            self.refused("bottom", quotient, 1, thing)
            self.refused("top", quotient, thing, 0)
        self.refused("bottom", quotient, 1, 0)
        self.refused("bottom", quotient, 0, 0)

    def test_sums_and_products(self):
        chance = a_chance(15)
        for many in range(6):
            for _ in range(20):
                values = [some(chance) for _ in range(many)]
                total, product = Fraction(0), Fraction(1)
                for value in values:
                    total, product = total + value, product * value
                self.tells(pair(total), sums, *[pair(value) for value in values])
                self.tells(pair(product), products, *[pair(value) for value in values])

    def test_without_any(self):
        self.tells((0, 1), sums)
        self.tells((1, 1), products)

    def test_less_and_over(self):
        chance = a_chance(16)
        for _ in range(200):
            one, other = some(chance), some(chance)
            self.tells(pair(one - other), less, pair(one), pair(other))
            if other != 0:
                self.tells(pair(one / other), over, pair(one), pair(other))
        self.tells((-3, 2), over, (1, 1), (-2, 3))

    def test_the_first_wrong_index(self):
        for function in (sums, products):
            for thing in NO_QUOTIENTS:
                self.refused("quotients", function, thing, at=0)
                self.refused("quotients", function, (1, 2), (3, 1), thing, (1, 2), thing, at=2)

    def test_less_and_over_refuse(self):
        for function in (less, over):
            for thing in NO_QUOTIENTS:
                self.refused("one", function, thing, (1, 2))
                self.refused("other", function, (1, 2), thing)
                self.refused("one", function, thing, thing)
        self.tells((1, 2), less, (1, 2), (0, 1))
        self.refused("other", over, (1, 2), (0, 1))
        self.refused("one", over, (2, 4), (0, 1))


if __name__ == "__main__":
    unittest.main()
