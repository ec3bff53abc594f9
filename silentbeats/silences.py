"""The divisors at which a voice is silent, and the voices that are silent at given ones."""

from math import gcd

from silentbeats.checks import need
from silentbeats.entries import parted
from silentbeats.folds import folded
from silentbeats.kinds import are_integers, is_divisor, is_divisor_set, is_size, is_voice_of
from silentbeats.numbers import divisors_of, totient_of
from silentbeats.polynomials import cyclotomic, exact_by, padded, polynomial_of, rest_by, round_polynomial, times
from silentbeats.primes import moebius
from silentbeats.voices import product_of, voice_of


def silences_of(voice):
    """The set of the divisors of the size at which the voice is silent."""
    return tuple([divisor for divisor in divisors_of(len(voice)) if is_silent(voice, divisor)])


def is_silent(voice, divisor):
    """Whether the voice is silent at this divisor of its size."""
    need(is_divisor(len(voice), divisor), "divisor")
    return left_by(voice, divisor) == ()


def rest_at(voice, divisor):
    """The rest of the voice's polynomial by C_divisor, as many integers as this has degree."""
    need(is_divisor(len(voice), divisor), "divisor")
    return padded(left_by(voice, divisor), totient_of(divisor))


def left_by(voice, divisor):
    """The rest of the voice's polynomial by C_divisor, as a polynomial."""
    # Folding keeps the rest, since C_divisor divides x ** divisor - 1.
    return rest_by(polynomial_of(folded(voice, divisor)), cyclotomic(divisor))


def part_at(voice, divisor):
    """The voice of quotients, silent at all other divisors, without which the voice is silent at this one."""
    size = len(voice)
    need(is_divisor(size, divisor), "divisor")
    # The sums of the powers of all roots of C_divisor, divided by the size, have the rest 1 there, 0 elsewhere.
    root_sums = tuple([root_sum(divisor, beat) for beat in range(size)])
    return parted(product_of(voice, root_sums), size)


def root_sum(divisor, power):
    """The sum of this power of all roots of C_divisor."""
    return sum([each * moebius(divisor // each) for each in divisors_of(gcd(divisor, power))])


def alike_silent(one, other):
    """Whether two voices of one size have equal silences."""
    need(is_voice_of(len(one), other), "other")
    return silences_of(one) == silences_of(other)


def need_divisors(size, divisors):
    """Refuses what is no size, or no set of divisors of it."""
    need(is_size(size), "size")
    need(is_divisor_set(size, divisors), "divisors")


def factor_of(divisors):
    """The product of C_d for all of these."""
    factor = (1,)
    for divisor in divisors:
        factor = times(factor, cyclotomic(divisor))
    return factor


def silent_rank(size, divisors):
    """The size less the degrees of C_d for all these divisors."""
    need_divisors(size, divisors)
    return size - sum([totient_of(divisor) for divisor in divisors])


def silent_basis(size, divisors):
    """The voices silent at all these divisors that have 1 at one of the first beats, 0 at the others of them."""
    rank = silent_rank(size, divisors)
    rule = rule_of(size, divisors)
    return tuple([carried_on(size, rule, voice_of(rank, (beat,))) for beat in range(rank)])


def silent_from(size, divisors, weights):
    """The voice silent at all these divisors that has these weights at the first beats."""
    rank = silent_rank(size, divisors)
    need(are_integers(weights) and len(weights) == rank, "weights")
    return carried_on(size, rule_of(size, divisors), weights)


def silent_voice(size, divisors):
    """A voice whose silences are just these divisors."""
    need_divisors(size, divisors)
    factor = factor_of(divisors)
    return padded(factor, size) if len(factor) <= size else (0,) * size


def rule_of(size, divisors):
    """The polynomial that comes to nothing with just the voices of this size silent at all these divisors."""
    return exact_by(round_polynomial(size), factor_of(divisors))


def carried_on(size, rule, weights):
    """The voice of this size that begins with the weights and that the rule brings to nothing."""
    degree = len(rule) - 1
    voice = list(weights)
    for beat in range(degree, size):
        # The constant of the rule is 1 or -1, so that dividing by it is multiplying by it.
        voice.append(-rule[0] * sum([rule[k] * voice[beat - k] for k in range(1, degree + 1)]))
    return tuple(voice)
