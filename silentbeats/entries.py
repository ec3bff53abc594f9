"""Entries: tuples of integers and quotients, one for each beat of a clock."""

from math import lcm

from silentbeats.kinds import is_integer, is_quotient
from silentbeats.quotients import lowest


def are_entries(size, thing):
    """Whether it is a tuple of an integer or a quotient for each beat of a clock of this size."""
    return isinstance(thing, tuple) and len(thing) == size and all([is_integer(x) or is_quotient(x) for x in thing])


def top_and_bottom(entry):
    """An entry as a quotient."""
    return (entry, 1) if is_integer(entry) else entry


def whole_multiple(entries):
    """A voice and an integer above 0: the entries are the voice divided by the integer."""
    pairs = [top_and_bottom(entry) for entry in entries]
    shared = 1
    for _, bottom in pairs:
        shared = lcm(shared, bottom)
    return (tuple([top * (shared // bottom) for top, bottom in pairs]), shared)


def parted(voice, bottom):
    """The quotients of all weights by an integer other than 0."""
    return tuple([lowest(weight, bottom) for weight in voice])


def measure_of(entries, voice):
    """The sum of the products of both, beat by beat, as a quotient."""
    weights, bottom = whole_multiple(entries)
    return lowest(sum([a * b for a, b in zip(weights, voice)]), bottom)
