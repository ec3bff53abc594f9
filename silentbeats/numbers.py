"""The primes, the divisors and the totient of a number up to ten thousand."""

from silentbeats.checks import need
from silentbeats.kinds import is_size
from silentbeats.primes import MOST_FACTORED, prime_parts, primes_in


def need_number(number):
    """Refuses what is no integer from 1 to ten thousand."""
    need(is_size(number) and number <= MOST_FACTORED, "number")


def primes_of(number):
    """The set of the primes that divide the number."""
    need_number(number)
    return primes_in(number)


def divisors_of(number):
    """The set of the divisors of the number, from 1 on."""
    need_number(number)
    return tuple([trial for trial in range(1, number + 1) if number % trial == 0])


def totient_of(number):
    """How many integers from 1 to the number have no common divisor with it but 1."""
    need_number(number)
    many = 1
    for prime, power in prime_parts(number):
        many = many * (power - power // prime)
    return many


def power_parts(number):
    """The set of the greatest power of each prime that divides the number."""
    need_number(number)
    return tuple(sorted([power for _, power in prime_parts(number)]))
