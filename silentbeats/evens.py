"""Even voices, and pairs of voices that fill evenly."""

from silentbeats.checks import need
from silentbeats.kinds import is_voice_of
from silentbeats.numbers import divisors_of
from silentbeats.silences import is_silent
from silentbeats.voices import product_of


def is_even(voice):
    """Whether all weights are equal."""
    return all([weight == voice[0] for weight in voice])


def fills_evenly(one, other):
    """Whether the product of both is even."""
    return is_even(product_of(one, other))


def even_weight(one, other):
    """The weight that the product has at each beat; None if it is not even."""
    both = product_of(one, other)
    return both[0] if is_even(both) else None


def bar_at(one, other):
    """The least divisor above 1 at which neither is silent; None if there is none."""
    need(is_voice_of(len(one), other), "other")
    for divisor in divisors_of(len(one))[1:]:
        if not is_silent(one, divisor) and not is_silent(other, divisor):
            return divisor
    return None
