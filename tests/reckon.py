"""Plain reckoning beside the program: products, divisions and wheels in the most direct way."""

from fractions import Fraction
from functools import lru_cache


def divisors(number):
    return [d for d in range(1, number + 1) if number % d == 0]


def common(one, other):
    while other:
        one, other = other, one % other
    return abs(one)


def around(one, other):
    """The product of two voices on their clock."""
    size = len(one)
    return tuple(
        sum(one[i] * other[j] for i in range(size) for j in range(size) if (i + j - beat) % size == 0)
        for beat in range(size)
    )


def cut(weights):
    weights = list(weights)
    while weights and weights[-1] == 0:
        weights.pop()
    return weights


def division(one, by):
    """Factor and rest of a division of polynomials, as lists of Fractions without noughts at the end."""
    rest = [Fraction(weight) for weight in cut(one)]
    factor = [Fraction(0)] * max(0, len(rest) - len(by) + 1)
    while len(rest) >= len(by):
        shift = len(rest) - len(by)
        lead = rest[-1] / by[-1]
        factor[shift] = lead
        for k, weight in enumerate(by):
            rest[shift + k] -= lead * weight
        rest = cut(rest)
    return cut(factor), rest


@lru_cache(maxsize=None)
def wheel(number):
    """C_number, by division of x ** number - 1 by all lesser ones."""
    left = [-1] + [0] * (number - 1) + [1]
    for d in divisors(number)[:-1]:
        left = division(left, wheel(d))[0]
    return tuple(int(weight) for weight in left)


def rest(voice, divisor):
    """The rest of a voice's polynomial by C_divisor, filled up with noughts."""
    by = wheel(divisor)
    left = division(voice, by)[1]
    return tuple(left + [Fraction(0)] * (len(by) - 1 - len(left)))


def silent(voice, divisor):
    return not any(rest(voice, divisor))


def silences(voice):
    return tuple(d for d in divisors(len(voice)) if silent(voice, d))


def fractions(quotients):
    """The entries as Fractions."""
    return tuple(Fraction(*entry) if isinstance(entry, tuple) else Fraction(entry) for entry in quotients)


def pairs(numbers):
    """The Fractions as quotients."""
    return tuple((Fraction(number).numerator, Fraction(number).denominator) for number in numbers)


def later(voice, k):
    """The voice turned by k."""
    size = len(voice)
    return tuple(voice[(beat - k) % size] for beat in range(size))


def determinant(rows):
    """The determinant of a square, with Fractions, row by row."""
    rows = [[Fraction(weight) for weight in row] for row in rows]
    value = Fraction(1)
    for k in range(len(rows)):
        at = next((j for j in range(k, len(rows)) if rows[j][k] != 0), None)
        if at is None:
            return Fraction(0)
        if at != k:
            rows[k], rows[at] = rows[at], rows[k]
            value = -value
        value *= rows[k][k]
        for j in range(k + 1, len(rows)):
            share = rows[j][k] / rows[k][k]
            rows[j] = [a - share * b for a, b in zip(rows[j], rows[k])]
    return value


def multiplied(one, other):
    """The product of two polynomials, lists from the constant on."""
    if not one or not other:
        return []
    weights = [0] * (len(one) + len(other) - 1)
    for j, a in enumerate(one):
        for k, b in enumerate(other):
            weights[j + k] += a * b
    return cut(weights)


def product_at_roots(many, by):
    """The product of the values of a polynomial at all roots of one whose last integer is 1."""
    degree = len(by) - 1
    rows = []
    for k in range(degree):
        left = division([0] * k + list(many), by)[1]
        rows.append(left + [0] * (degree - len(left)))
    return determinant(rows)


def index(voice):
    """The index of the room by [38]: G has the wheels of all silences, G * H is x ** size - 1, G * A the voice."""
    size = len(voice)
    shared = [1]
    for divisor in silences(voice):
        shared = multiplied(shared, wheel(divisor))
    by = division([-1] + [0] * (size - 1) + [1], shared)[0]
    many = division(voice, shared)[0]
    return abs(product_at_roots(many, by))


@lru_cache(maxsize=None)
def primes(number):
    return [p for p in range(2, number + 1) if number % p == 0 and all(p % k for k in range(2, p))]


def polygons(size):
    return [(p, first) for p in primes(size) for first in range(size // p)]


def heap(size, rows):
    """The voice of a heap."""
    return tuple(
        sum(many for p, first, many in rows if (beat - first) % (size // p) == 0) for beat in range(size)
    )


def mirror(voice):
    """The voice with the weight of beat j at beat -j."""
    return tuple(voice[(len(voice) - beat) % len(voice)] for beat in range(len(voice)))


def echo(voice):
    """The sums of the products of all two weights that are so many beats apart."""
    return across(voice, voice)


def across(one, other):
    """At beat k the sum of one[i] times other[j] over all beats, k and j more being i."""
    size = len(one)
    return tuple(
        sum(one[i] * other[j] for i in range(size) for j in range(size) if (j + k - i) % size == 0) for k in range(size)
    )


def kin(voice):
    """All kin of the voice, ascending."""
    size = len(voice)
    return sorted({later(each, k) for each in (voice, mirror(voice)) for k in range(size)})


def step(voice, prime, state):
    """The state to which a step of the machine leads."""
    return tuple(weight % prime for weight in around(voice, state))
