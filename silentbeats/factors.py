"""The factors of x ** size - 1 modulo a prime, and states put together from their rests by them."""

from silentbeats.checks import need
from silentbeats.kinds import is_prime, is_size
from silentbeats.machines import are_digits, round_by
from silentbeats.polynomials import padded, trimmed
from silentbeats.residues import parted_by, power_of_factor, product_by, reduced, rest_of, shared_with, sum_by


def need_clock(size, prime):
    """Refuses what is no size, or no prime."""
    need(is_size(size), "size")
    need(is_prime(prime), "prime")


def size_and_often(size, prime):
    """The greatest divisor of the size that the prime does not divide, and what is left."""
    often = 1
    while size // often % prime == 0:
        often = often * prime
    return (size // often, often)


def circles(size, prime):
    """The lists of the beats to which times the prime, again and again, leads from one; they share none."""
    found = []
    seen = []
    for beat in range(size):
        if beat not in seen:
            circle = [beat]
            while circle[-1] * prime % size != beat:
                circle.append(circle[-1] * prime % size)
            found.append(circle)
            seen = seen + circle
    return found


def split_by(factor, circle, prime):
    """The greatest common divisors, above constants, of the factor and of the sum of the powers less each digit."""
    powers = trimmed([1 if k in circle else 0 for k in range(max(circle) + 1)])
    rest = rest_of(powers, factor, prime)
    if len(rest) < 2:
        return [factor]
    lessened = [reduced((rest[0] - digit,) + rest[1:], prime) for digit in range(prime)]
    parts = [shared_with(one, factor, prime)[0] for one in lessened]
    return [part for part in parts if len(part) > 1]


def simple_factors(size, prime):
    """The factors of x ** size - 1, each once, for a size that the prime does not divide."""
    # The sum of the powers of a circle is its own power by the prime, so that it leaves a digit by each factor;
    # all such polynomials are made of these sums, so that for any two factors one of them leaves unlike digits.
    found = [round_by(size, prime)]
    for circle in circles(size, prime):
        found = [part for factor in found for part in split_by(factor, circle, prime)]
    return found


def factors_of(size, prime):
    """The set of the pairs of each factor of x ** size - 1 that no others make, and of how often it is one."""
    need_clock(size, prime)
    lesser, often = size_and_often(size, prime)
    return tuple(sorted([(factor, often) for factor in simple_factors(lesser, prime)]))


def factor_powers(size, prime):
    """The powers of the factors that make x ** size - 1, in the order of the factors."""
    return [power_of_factor(factor, often, prime) for factor, often in factors_of(size, prime)]


def state_parts(size, prime, state):
    """The rests of the state's polynomial by the powers of all factors."""
    need_clock(size, prime)
    need(are_digits(size, prime, state), "state")
    powers = factor_powers(size, prime)
    return tuple([padded(rest_of(trimmed(state), power, prime), len(power) - 1) for power in powers])


def are_parts(powers, prime, thing):
    """Whether it is a tuple of tuples of digits, as many as the powers, and as long as their degrees."""
    if not (isinstance(thing, tuple) and len(thing) == len(powers)):
        return False
    return all([are_digits(len(power) - 1, prime, part) for power, part in zip(powers, thing)])


def state_from(size, prime, parts):
    """The state with these parts."""
    powers = factor_powers(size, prime)
    need(are_parts(powers, prime, parts), "parts")
    reached = ()
    for power, part in zip(powers, parts):
        others = parted_by(round_by(size, prime), power, prime)[0]
        # The others, so many times, leave 1 by this power, and nothing by all others.
        many = shared_with(reduced(others, prime), power, prime)[1]
        share = rest_of(product_by(trimmed(part), many, prime), power, prime)
        reached = sum_by(reached, product_by(share, others, prime), prime)
    return padded(reached, size)
