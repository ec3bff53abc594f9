"""The signs of a pattern, and what they tell of its fills."""

from math import gcd

from silentbeats.checks import need
from silentbeats.kinds import is_pattern
from silentbeats.polynomials import cyclotomic, rest_by
from silentbeats.primes import least_prime, primes_in
from silentbeats.voices import voice_of


def has_sign(beats, power, prime):
    """Whether C_power, power being one of the prime, divides the polynomial of this set of numbers."""
    # What C_power divides is, taken by the power, the same again after a step of power / prime.
    rests = sorted([beat % power for beat in beats])
    return rests == sorted([(rest + power // prime) % power for rest in rests])


def signs_of(pattern):
    """The set of the prime powers s for which C_s divides the pattern's polynomial."""
    need(is_pattern(pattern), "pattern")
    signs = []
    # At 1 the value of C_power is its prime, that of the polynomial the number of elements: so it divides this.
    for prime in primes_in(len(pattern)):
        power = prime
        while power - power // prime <= pattern[-1]:
            if has_sign(pattern, power, prime):
                signs.append(power)
            power = power * prime
    return tuple(sorted(signs))


def product_of_all(numbers):
    """The product of these integers, 1 without any."""
    reached = 1
    for number in numbers:
        reached = reached * number
    return reached


def unlike_signs(signs):
    """All tuples, of two or more of these signs, of powers of unlike primes."""
    choices = [()]
    for sign in signs:
        choices = choices + [choice + (sign,) for choice in choices if gcd(sign, product_of_all(choice)) == 1]
    return [choice for choice in choices if len(choice) >= 2]


def divides_at(pattern, number):
    """Whether C_number divides the pattern's polynomial."""
    return rest_by(voice_of(pattern[-1] + 1, pattern), cyclotomic(number)) == ()


def broken_second(pattern):
    """Signs by whose product C_m does not divide the polynomial, against (T2); None if there are none."""
    for choice in unlike_signs(signs_of(pattern)):
        if not divides_at(pattern, product_of_all(choice)):
            return choice
    return None


def holds_first(pattern):
    """Whether the number of elements is the product of the primes of the signs."""
    primes = [least_prime(sign) for sign in signs_of(pattern)]
    return product_of_all(primes) == len(pattern)


def holds_second(pattern):
    """Whether C_m divides the polynomial for each product m of two or more signs that are powers of unlike primes."""
    return broken_second(pattern) is None


def fill_word(pattern):
    """The word "fills" if the pattern satisfies (T1) and (T2), so that it has a fill, "never" otherwise."""
    return "fills" if holds_first(pattern) and holds_second(pattern) else "never"
