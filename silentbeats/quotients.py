"""Exact reckoning with quotients: pairs of a top and a bottom above 0, in lowest terms."""

from math import gcd

from silentbeats.checks import need, need_each
from silentbeats.kinds import is_integer, is_quotient


def lowest(top, bottom):
    """The quotient of two integers, the second of which is not 0."""
    shared = gcd(top, bottom) if bottom > 0 else -gcd(top, bottom)
    return (top // shared, bottom // shared)


def quotient(top, bottom):
    """An integer divided by another one that is not 0."""
    need(is_integer(top), "top")
    need(is_integer(bottom) and bottom != 0, "bottom")
    return lowest(top, bottom)


def sums(*quotients):
    """The sum of all of them, 0 without any."""
    need_each([is_quotient(each) for each in quotients], "quotients")
    reached = (0, 1)
    for top, bottom in quotients:
        reached = lowest(reached[0] * bottom + top * reached[1], reached[1] * bottom)
    return reached


def products(*quotients):
    """The product of all of them, 1 without any."""
    need_each([is_quotient(each) for each in quotients], "quotients")
    reached = (1, 1)
    for top, bottom in quotients:
        reached = lowest(reached[0] * top, reached[1] * bottom)
    return reached


def less(one, other):
    """One less the other."""
    need(is_quotient(one), "one")
    need(is_quotient(other), "other")
    return lowest(one[0] * other[1] - other[0] * one[1], one[1] * other[1])


def over(one, other):
    """One divided by the other, which is not 0."""
    need(is_quotient(one), "one")
    need(is_quotient(other) and other[0] != 0, "other")
    return lowest(one[0] * other[1], one[1] * other[0])
