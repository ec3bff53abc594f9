"""Polynomials as tuples of integers, from the constant on, the last of which is not 0."""

from silentbeats.checks import need
from silentbeats.kinds import is_integer, is_monic, is_polynomial, is_size, is_voice
from silentbeats.primes import prime_parts


def trimmed(weights):
    """The weights without the noughts at the end."""
    many = len(weights)
    while many > 0 and weights[many - 1] == 0:
        many -= 1
    return tuple(weights[:many])


def padded(one, many):
    """The integers of a polynomial with noughts behind, so many in all."""
    return one + (0,) * (many - len(one))


def divided(one, divisor):
    """The polynomials factor and rest: one is the divisor, whose last integer is 1, times factor, and rest."""
    degree = len(divisor) - 1
    rest = list(one)
    factor = [0 for _ in range(len(one) - degree)]
    for shift in reversed(range(len(one) - degree)):
        lead = rest[shift + degree]
        factor[shift] = lead
        for k in range(degree + 1):
            rest[shift + k] = rest[shift + k] - lead * divisor[k]
    return (trimmed(factor), trimmed(rest))


def widened(one, step):
    """The polynomial in x ** step that is one in x, one being other than ()."""
    weights = [0 for _ in range((len(one) - 1) * step + 1)]
    for k, weight in enumerate(one):
        weights[k * step] = weight
    return tuple(weights)


def round_polynomial(size):
    """x ** size - 1."""
    return (-1,) + (0,) * (size - 1) + (1,)


def polynomial_of(voice):
    """The polynomial in which x ** j has the weight at beat j."""
    need(is_voice(voice), "voice")
    return trimmed(voice)


def times(one, other):
    """The product of two polynomials."""
    need(is_polynomial(one), "one")
    need(is_polynomial(other), "other")
    weights = [0 for _ in range(len(one) + len(other))]
    for j, weight in enumerate(one):
        for k, factor in enumerate(other):
            weights[j + k] = weights[j + k] + weight * factor
    return trimmed(weights)


def plus(one, other):
    """The sum of two polynomials."""
    need(is_polynomial(one), "one")
    need(is_polynomial(other), "other")
    many = max(len(one), len(other))
    return trimmed([a + b for a, b in zip(padded(one, many), padded(other, many))])


def rest_by(one, divisor):
    """The rest that one leaves by a divisor whose last integer is 1."""
    need(is_polynomial(one), "one")
    need(is_monic(divisor), "divisor")
    return divided(one, divisor)[1]


def exact_by(one, divisor):
    """The polynomial whose product with the divisor is one; None if there is none."""
    need(is_polynomial(one), "one")
    need(is_monic(divisor), "divisor")
    factor, rest = divided(one, divisor)
    return factor if rest == () else None


def value_at(one, number):
    """The value of the polynomial at an integer."""
    need(is_polynomial(one), "one")
    need(is_integer(number), "number")
    value = 0
    for weight in reversed(list(one)):
        value = value * number + weight
    return value


def cyclotomic(number):
    """C_number: the factor that x ** number - 1 has, and no x ** d - 1 has with d below the number."""
    need(is_size(number), "number")
    found = (-1, 1)
    left = number
    for prime, _ in prime_parts(number):
        # For a prime that does not divide m, C_m in x ** prime is C_m times C_(m * prime).
        found = exact_by(widened(found, prime), found)
        left = left // prime
    # A prime that divides m already adds no new factor: C_m in x ** prime is C_(m * prime).
    return widened(found, left)
