"""Machines: a voice enters into a state of digits again and again, modulo a prime."""

from silentbeats.checks import need
from silentbeats.kinds import is_beat, is_number, is_prime, is_size
from silentbeats.polynomials import padded, round_polynomial, trimmed
from silentbeats.residues import digits_of, parted_by, reduced, shared_with
from silentbeats.voices import product_of, voice_of


def are_digits(size, prime, thing):
    """Whether it is a tuple of so many numbers below the prime."""
    return isinstance(thing, tuple) and len(thing) == size and all([is_beat(prime, digit) for digit in thing])


def is_state(size, prime, thing):
    """Whether it is a tuple of so many digits."""
    need(is_size(size), "size")
    need(is_prime(prime), "prime")
    return are_digits(size, prime, thing)


def need_prime(prime):
    """Refuses what is no prime."""
    need(is_prime(prime), "prime")


def need_state(voice, prime, state):
    """Refuses what is no prime, or no state of the machine."""
    need_prime(prime)
    need(are_digits(len(voice), prime, state), "state")


def step_of(voice, prime, state):
    """The state to which a step leads."""
    need_state(voice, prime, state)
    return digits_of(product_of(voice, state), prime)


def after(voice, prime, state, many):
    """The state to which so many steps lead."""
    need_state(voice, prime, state)
    need(is_number(many), "many")
    return digits_of(product_of(power_by(voice, many, prime), state), prime)


def power_by(voice, many, prime):
    """The product of so many voices equal to this one, modulo the prime."""
    reached = voice_of(len(voice), (0,))
    square = digits_of(voice, prime)
    left = many
    while left > 0:
        if left % 2 == 1:
            reached = digits_of(product_of(reached, square), prime)
        square = digits_of(product_of(square, square), prime)
        left = left // 2
    return reached


def round_by(size, prime):
    """x ** size - 1 modulo the prime."""
    return reduced(round_polynomial(size), prime)


def shared_factor(voice, prime):
    """The common factor, and a polynomial whose product with the voice's leaves it by x ** size - 1."""
    return shared_with(reduced(voice, prime), round_by(len(voice), prime), prime)


def common_factor(voice, prime):
    """The greatest common divisor, modulo the prime, of the voice's polynomial and x ** size - 1."""
    need_prime(prime)
    return shared_factor(voice, prime)[0]


def lost_by(voice, prime):
    """The degree of the common factor."""
    return len(common_factor(voice, prime)) - 1


def dying_rank(voice, prime):
    """The number for which as many states as the prime to this power come to the state of noughts."""
    need_prime(prime)
    # No factor divides x ** size - 1 more often than size times: behind so many steps nothing more dies.
    return lost_by(power_by(voice, len(voice), prime), prime)


def goes_back(voice, prime):
    """Whether each state has just one state that leads to it."""
    return common_factor(voice, prime) == (1,)


def back_voice(voice, prime):
    """The voice of digits whose machine undoes each step; None without one."""
    return before(voice, prime, voice_of(len(voice), (0,)))


def before(voice, prime, state):
    """A state from which a step leads to this one; None without one."""
    need_state(voice, prime, state)
    size = len(voice)
    shared, factor = shared_factor(voice, prime)
    # A step leads to just the multiples of the common factor.
    many, rest = parted_by(trimmed(state), shared, prime)
    return digits_of(product_of(padded(factor, size), padded(many, size)), prime) if rest == () else None


def power_of_prime(prime, many):
    """The product of so many of the prime."""
    reached = 1
    for _ in range(many):
        reached = reached * prime
    return reached


def before_count(voice, prime, state):
    """From how many states a step leads to this one."""
    return 0 if before(voice, prime, state) is None else power_of_prime(prime, lost_by(voice, prime))


def garden(voice, prime):
    """To how many states no step leads."""
    size = len(voice)
    lost = lost_by(voice, prime)
    return power_of_prime(prime, size) - power_of_prime(prime, size - lost)
