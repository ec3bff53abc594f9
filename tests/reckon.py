"""Plain reckoning beside the program: products, divisions and wheels in the most direct way."""

from fractions import Fraction


def divisors(number):
    return [d for d in range(1, number + 1) if number % d == 0]


def common(one, other):
    while other:
        one, other = other, one % other
    return abs(one)


def around(one, other):
    """The product of two voices on their clock."""
    size = len(one)
    return tuple(
        sum(one[i] * other[j] for i in range(size) for j in range(size) if (i + j - beat) % size == 0)
        for beat in range(size)
    )


def cut(weights):
    weights = list(weights)
    while weights and weights[-1] == 0:
        weights.pop()
    return weights


def division(one, by):
    """Factor and rest of a division of polynomials, as lists of Fractions without noughts at the end."""
    rest = [Fraction(weight) for weight in cut(one)]
    factor = [Fraction(0)] * max(0, len(rest) - len(by) + 1)
    while len(rest) >= len(by):
        shift = len(rest) - len(by)
        lead = rest[-1] / by[-1]
        factor[shift] = lead
        for k, weight in enumerate(by):
            rest[shift + k] -= lead * weight
        rest = cut(rest)
    return cut(factor), rest


def wheel(number):
    """C_number, by division of x ** number - 1 by all lesser ones."""
    left = [-1] + [0] * (number - 1) + [1]
    for d in divisors(number)[:-1]:
        left = division(left, wheel(d))[0]
    return [int(weight) for weight in left]


def rest(voice, divisor):
    """The rest of a voice's polynomial by C_divisor, filled up with noughts."""
    by = wheel(divisor)
    left = division(voice, by)[1]
    return tuple(left + [Fraction(0)] * (len(by) - 1 - len(left)))


def silent(voice, divisor):
    return not any(rest(voice, divisor))


def silences(voice):
    return tuple(d for d in divisors(len(voice)) if silent(voice, d))


def fractions(quotients):
    """The entries as Fractions."""
    return tuple(Fraction(*entry) if isinstance(entry, tuple) else Fraction(entry) for entry in quotients)


def pairs(numbers):
    """The Fractions as quotients."""
    return tuple((Fraction(number).numerator, Fraction(number).denominator) for number in numbers)
