"""Polynomials modulo a prime: tuples of digits from the constant on, the last of which is not 0."""

from silentbeats.polynomials import plus, times, trimmed


def digits_of(weights, prime):
    """What all these integers leave by the prime."""
    return tuple([weight % prime for weight in weights])


def reduced(weights, prime):
    """The polynomial with these integers, modulo the prime."""
    return trimmed(digits_of(weights, prime))


def product_by(one, other, prime):
    """The product of two polynomials."""
    return reduced(times(one, other), prime)


def sum_by(one, other, prime):
    """The sum of two polynomials."""
    return reduced(plus(one, other), prime)


def back_digit(digit, prime):
    """The digit whose product with this one, other than 0, is 1."""
    return [each for each in range(1, prime) if digit * each % prime == 1][0]


def parted_by(one, by, prime):
    """The polynomials factor and rest: one is by, whose last digit is 1, times factor, and rest."""
    degree = len(by) - 1
    rest = list(one)
    factor = [0 for _ in range(len(one) - degree)]
    for shift in reversed(range(len(one) - degree)):
        lead = rest[shift + degree]
        factor[shift] = lead
        for k, digit in enumerate(by):
            rest[shift + k] = (rest[shift + k] - lead * digit) % prime
    return (trimmed(factor), trimmed(rest))


def rest_of(one, by, prime):
    """The rest that one leaves by a polynomial whose last digit is 1."""
    return parted_by(one, by, prime)[1]


def shared_with(one, by, prime):
    """The greatest common divisor of one and by, and the polynomial whose product with one leaves it by by.

    The last digit of by is 1, and so is that of the divisor.
    """
    ahead, ahead_times = by, ()
    now, now_times = one, (1,)
    while now != ():
        scale = (back_digit(now[-1], prime),)
        now = product_by(now, scale, prime)
        now_times = product_by(now_times, scale, prime)
        factor, rest = parted_by(ahead, now, prime)
        taken = product_by(product_by(factor, now_times, prime), (-1,), prime)
        ahead, ahead_times, now, now_times = now, now_times, rest, sum_by(ahead_times, taken, prime)
    return (ahead, ahead_times)


def power_of_factor(factor, many, prime):
    """The product of so many polynomials equal to this one."""
    reached = (1,)
    for _ in range(many):
        reached = product_by(reached, factor, prime)
    return reached


def power_rest(one, many, by, prime):
    """The rest of the product of so many polynomials equal to one by another, no constant, of last digit 1."""
    reached = (1,)
    square = rest_of(one, by, prime)
    left = many
    while left > 0:
        if left % 2 == 1:
            reached = rest_of(product_by(reached, square, prime), by, prime)
        square = rest_of(product_by(square, square, prime), by, prime)
        left = left // 2
    return reached


def times_in(factor, one, most, prime):
    """How often the factor, of last digit 1, divides one; no more than most."""
    left = one
    for many in range(most):
        left, rest = parted_by(left, factor, prime)
        if rest != ():
            return many
    return most
