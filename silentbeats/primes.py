"""Primes by trial division; the callers keep the numbers small and from 1 on."""

MOST_FACTORED = 10000


def least_prime(number):
    """The least prime that divides a number above 1."""
    trial = 2
    while trial * trial <= number:
        if number % trial == 0:
            return trial
        trial += 1
    return number


def prime_parts(number):
    """The pairs of each prime that divides the number and of its greatest power that does."""
    parts = []
    left = number
    while left > 1:
        prime = least_prime(left)
        power = 1
        while left % prime == 0:
            left = left // prime
            power = power * prime
        parts.append((prime, power))
    return tuple(parts)


def primes_in(number):
    """The set of the primes that divide the number."""
    return tuple([prime for prime, _ in prime_parts(number)])


def moebius(number):
    """0 if a square above 1 divides the number, otherwise -1 or 1 as its primes are odd or even in number."""
    sign = 1
    for prime, power in prime_parts(number):
        sign = -sign if prime == power else 0
    return sign
