"""Voices folded to a smaller clock, brought to a greater one, and stretched."""

from math import gcd

from silentbeats.checks import need
from silentbeats.kinds import is_divisor, is_integer, is_size
from silentbeats.numbers import divisors_of
from silentbeats.voices import turned


def is_multiple(number, thing):
    """Whether it is a multiple of the number, from 1 on."""
    return is_size(thing) and thing % number == 0


def folded(voice, size):
    """The voice of a size that divides this one's: weights at beats that leave the same by it are added."""
    need(is_divisor(len(voice), size), "size")
    return tuple([sum(voice[beat::size]) for beat in range(size)])


def spread(voice, size):
    """The voice of a size t times this one's that has at beat j * t the weight at j, 0 elsewhere."""
    need(is_multiple(len(voice), size), "size")
    step = size // len(voice)
    return tuple([voice[beat // step] if beat % step == 0 else 0 for beat in range(size)])


def repeated(voice, size):
    """The voice of a multiple of this one's size that goes on as this one does, again and again."""
    need(is_multiple(len(voice), size), "size")
    return voice * (size // len(voice))


def period_of(voice):
    """The least integer from 1 on, turned by which the voice is the same."""
    # All such integers are the multiples of the least, and the size is one: so the least divides it.
    return min([step for step in divisors_of(len(voice)) if turned(voice, step) == voice])


def stretched(voice, k):
    """The voice whose weights go to the beats that are k times their own; those that meet are added."""
    need(is_integer(k), "k")
    size = len(voice)
    weights = [0 for _ in range(size)]
    for beat, weight in enumerate(voice):
        goal = beat * k % size
        weights[goal] = weights[goal] + weight
    return tuple(weights)


def stretches_of(voice):
    """The set of the integers up to the size, prime to it, stretched by which the voice is the same."""
    size = len(voice)
    return tuple([k for k in range(1, size + 1) if gcd(k, size) == 1 and stretched(voice, k) == voice])
