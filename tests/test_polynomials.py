"""[5], [13], [16] and [17]: polynomials, and the polynomials C."""

import unittest

from silentbeats.numbers import divisors_of, primes_of, totient_of
from silentbeats.polynomials import cyclotomic, exact_by, plus, polynomial_of, rest_by, times, value_at
from tests.base import NO_INTEGERS, NO_SIZES, NO_VOICES, PAIR, BeatTest, a_chance
from tests.reckon import cut, division, wheel

NO_POLYNOMIALS = (
    True, False, None, 0, 1, "", "1", [], [1], (0,), (1, 0), (True,), (1, False), (0, True), (None,), ("1",), ((1,),),
    (1, ()),
)
NO_DIVISORS = NO_POLYNOMIALS + ((), (2,), (1, 2), (1, -1), (0, 0, -1))


def some(chance, most=8):
    return tuple(cut([chance.randint(-4, 4) for _ in range(chance.randint(0, most))]))


def some_divisor(chance):
    return tuple([chance.randint(-3, 3) for _ in range(chance.randint(0, 4))] + [1])


def value(one, number):
    return sum(weight * number ** k for k, weight in enumerate(one))


class Polynomials(BeatTest):
    def test_polynomial_of(self):
        self.tells((1, 0, 0, 1), polynomial_of, PAIR)
        self.tells((), polynomial_of, (0, 0))
        self.tells((), polynomial_of, (0,))
        self.tells((0, 0, -2), polynomial_of, (0, 0, -2))
        for thing in NO_VOICES:
            self.refused("voice", polynomial_of, thing)

    def test_times_and_plus(self):
        chance = a_chance(2)
        for _ in range(200):
            one, other = some(chance), some(chance)
            product = [0] * 20
            for j, a in enumerate(one):
                for k, b in enumerate(other):
                    product[j + k] += a * b
            total = [0] * 20
            for weights in (one, other):
                for k, weight in enumerate(weights):
                    total[k] += weight
            self.tells(tuple(cut(product)), times, one, other)
            self.tells(tuple(cut(total)), plus, one, other)

    def test_noughts(self):
        self.tells((), times, (), (1, 2))
        self.tells((), times, (1, 2), ())
        self.tells((), times, (), ())
        self.tells((1, 2), plus, (), (1, 2))
        self.tells((1, 2), plus, (1, 2), ())
        self.tells((), plus, (1, 2), (-1, -2))
        self.tells((3,), plus, (1, 2), (2, -2))

    def test_divisions(self):
        chance = a_chance(3)
        for _ in range(200):
            one, divisor = some(chance), some_divisor(chance)
            factor, rest = division(one, divisor)
            self.tells(tuple(int(weight) for weight in rest), rest_by, one, divisor)
            self.assertLess(len(rest_by(one, divisor)), len(divisor))
            self.tells(None if rest else tuple(int(weight) for weight in factor), exact_by, one, divisor)
            self.tells(one, exact_by, times(one, divisor), divisor)

    def test_division_edges(self):
        self.tells((), rest_by, (5, 6), (1,))
        self.tells((5, 6), exact_by, (5, 6), (1,))
        self.tells((), rest_by, (), (1, 1))
        self.tells((), exact_by, (), (1, 1))
        self.tells((7,), rest_by, (7,), (1, 1))
        self.tells(None, exact_by, (7,), (1, 1))
        self.tells((1,), exact_by, (0, 1), (0, 1))

    def test_value_at(self):
        chance = a_chance(4)
        for _ in range(100):
            one, number = some(chance), chance.randint(-6, 6)
            self.tells(value(one, number), value_at, one, number)
        self.tells(0, value_at, (), 7)
        self.tells(-3, value_at, (-3, 5), 0)
        self.tells(1 + 10 ** 59, value_at, (1, 1), 10 ** 59)

    def test_four_hundred(self):
        long = (1,) * 400
        self.same(times((-1, 1), long), (-1,) + (0,) * 399 + (1,))
        self.same(exact_by((-1,) + (0,) * 399 + (1,), (-1, 1)), long)

    def test_refusals(self):
        for thing in NO_POLYNOMIALS:
            for function in (times, plus):
                self.refused("one", function, thing, (1,))
                self.refused("other", function, (1,), thing)
                self.refused("one", function, thing, thing)
            for function in (rest_by, exact_by):
                self.refused("one", function, thing, (1,))
                self.refused("one", function, thing, ())
            self.refused("one", value_at, thing, 1)
            self.refused("one", value_at, thing, None)
        for thing in NO_DIVISORS:
            for function in (rest_by, exact_by):
                self.refused("divisor", function, (1, 1), thing)
        for thing in NO_INTEGERS:
            self.refused("number", value_at, (1, 1), thing)


class Wheels(BeatTest):
    def test_against_divisions(self):
        for number in range(1, 61):
            self.tells(tuple(wheel(number)), cyclotomic, number)

    def test_products(self):
        for number in [*range(1, 73), 105, 144, 180, 200]:
            product = (1,)
            for divisor in divisors_of(number):
                product = times(product, cyclotomic(divisor))
            self.same(product, (-1,) + (0,) * (number - 1) + (1,))

    def test_degrees_and_values_at_one(self):
        for number in range(1, 201):
            found = cyclotomic(number)
            primes = primes_of(number)
            self.assertEqual(len(found) - 1, totient_of(number))
            self.assertEqual(found[-1], 1)
            at_one = 0 if number == 1 else primes[0] if len(primes) == 1 else 1
            self.assertEqual(value_at(found, 1), at_one)

    def test_known_ones(self):
        self.tells((-1, 1), cyclotomic, 1)
        self.tells((1, 1), cyclotomic, 2)
        self.tells((1, -1, 1), cyclotomic, 6)
        self.tells((1, 0, 0, 0, 1), cyclotomic, 8)
        self.assertIn(-2, cyclotomic(105))

    def test_refusals(self):
        for thing in NO_SIZES:
            self.refused("number", cyclotomic, thing)


if __name__ == "__main__":
    unittest.main()
