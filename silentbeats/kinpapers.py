"""Papers that tell whether two voices have one echo."""

from math import gcd

from silentbeats.echoes import crossed, echo_of
from silentbeats.entries import whole_multiple
from silentbeats.kin import kin_step
from silentbeats.numbers import divisors_of
from silentbeats.rooms import entries_for
from silentbeats.silences import is_silent, rest_at, root_sum
from silentbeats.voices import added, multiplied, total_of, turned


def kin_paper(one, other):
    """A paper with a step to kin, with a beat at which the echoes differ, or with two voices that are mixed."""
    step = kin_step(one, other)
    if step is not None:
        return step
    mine = echo_of(one)
    theirs = echo_of(other)
    unlike = [k for k, weight in enumerate(mine) if weight != theirs[k]]
    return ("unlike", unlike[0]) if unlike != [] else mixed_paper(one, other)


def mixed_paper(one, other):
    """A paper with "mixed" for two voices of one echo."""
    size = len(one)
    # At 1 and at 2 a mirror has the same rest as its voice: there the goal has to have the very rests of one.
    sign = 1 if total_of(one) == total_of(other) else -1
    signed = multiplied(other, sign)
    turn = 0 if size % 2 == 1 or rest_at(one, 2) == rest_at(signed, 2) else 1
    v = mixer(one, turned(signed, turn))
    u, many = whole_multiple(entries_for(v, one))
    return ("mixed", sign, turn, many, u, v)


def mixer(one, goal):
    """A voice v that makes one, by some u whose product with the mirror of v is the goal.

    So v, at each divisor at which one is not silent, has to sound, and its mirror to be to it as the goal is to one.
    """
    size = len(one)
    v = crossed(one, added(one, goal))
    for divisor in divisors_of(size):
        if is_silent(v, divisor) and not is_silent(one, divisor):
            # Here the goal is one times -1, so that what is added is to be its own mirror times -1.
            roots = tuple([root_sum(divisor, beat) for beat in range(size)])
            v = added(v, added(turned(roots, 1), multiplied(turned(roots, -1), -1)))
    return lessened(v)


def lessened(voice):
    """A voice that is not all 0, divided by the greatest common divisor of its weights."""
    shared = 0
    for weight in voice:
        shared = gcd(shared, weight)
    return tuple([weight // shared for weight in voice])
