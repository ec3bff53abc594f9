"""Which values are integers, primes, voices, quotients and the like: these functions take any value."""

from math import gcd

from silentbeats.primes import MOST_FACTORED, least_prime, prime_parts

MOST_LETTERS = 8


def is_integer(thing):
    """Whether it is an int that is not a bool."""
    return isinstance(thing, int) and not isinstance(thing, bool)


def is_number(thing):
    """Whether it is an integer from 0 on."""
    return is_integer(thing) and thing >= 0


def is_size(thing):
    """Whether it is an integer from 1 on."""
    return is_integer(thing) and thing >= 1


def is_prime(thing):
    """Whether it is a prime up to ten thousand."""
    return is_integer(thing) and 1 < thing <= MOST_FACTORED and least_prime(thing) == thing


def is_prime_power(thing):
    """Whether it is a power of a prime, above 1, up to ten thousand."""
    return is_integer(thing) and 1 < thing <= MOST_FACTORED and len(prime_parts(thing)) == 1


def are_integers(thing):
    """Whether it is a tuple of integers, perhaps of none."""
    return isinstance(thing, tuple) and all([is_integer(each) for each in thing])


def is_integer_set(thing):
    """Whether it is an ascending tuple of integers, perhaps of none."""
    return are_integers(thing) and all([low < high for low, high in zip(thing, thing[1:])])


def is_voice(thing):
    """Whether it is a nonempty tuple of integers."""
    return are_integers(thing) and len(thing) > 0


def is_voice_of(size, thing):
    """Whether it is a voice of this size."""
    return is_voice(thing) and len(thing) == size


def is_strokes(thing):
    """Whether it is a voice without weights but 0 and 1."""
    return is_voice(thing) and all([0 <= weight <= 1 for weight in thing])


def is_beat(size, thing):
    """Whether it is a beat of a clock of this size."""
    return is_integer(thing) and 0 <= thing < size


def is_beats(size, thing):
    """Whether it is a set of beats of a clock of this size."""
    return is_size(size) and is_integer_set(thing) and all([is_beat(size, beat) for beat in thing])


def is_divisor(number, thing):
    """Whether it is a divisor, from 1 on, of the number."""
    return is_size(thing) and number % thing == 0


def is_divisor_set(number, thing):
    """Whether it is a set of divisors of the number."""
    return is_integer_set(thing) and all([is_divisor(number, divisor) for divisor in thing])


def is_quotient(thing):
    """Whether it is a pair of a top and a bottom above 0, in lowest terms."""
    return are_integers(thing) and len(thing) == 2 and thing[1] > 0 and gcd(thing[0], thing[1]) == 1


def is_pattern(thing):
    """Whether it is a set of integers that begins with 0."""
    return is_integer_set(thing) and thing[:1] == (0,)


def is_polynomial(thing):
    """Whether it is a tuple of integers, the last of which is not 0."""
    return are_integers(thing) and thing[-1:] != (0,)


def is_monic(thing):
    """Whether it is a polynomial whose last integer is 1."""
    return are_integers(thing) and thing[-1:] == (1,)


def is_name(thing):
    """Whether it is a string of one to eight lowercase letters."""
    if not isinstance(thing, str) or len(thing) > MOST_LETTERS:
        return False
    return thing.isascii() and thing.isalpha() and thing.islower()
