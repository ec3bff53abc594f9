"""Fills of the line by a pattern that enters again and again."""

from math import lcm

from silentbeats.checks import need
from silentbeats.errors import Unfilled
from silentbeats.kinds import is_beats, is_pattern, is_size
from silentbeats.primes import prime_parts
from silentbeats.signs import fill_word, holds_first, holds_second, signs_of


def clock_of(pattern):
    """The least common multiple of the signs, 1 without signs."""
    size = 1
    for sign in signs_of(pattern):
        size = lcm(size, sign)
    return size


def line_entries(pattern):
    """A fill of the pattern whose size is clock_of; Unfilled if it satisfies not both (T1) and (T2)."""
    if not holds_first(pattern):
        raise Unfilled("first")
    if not holds_second(pattern):
        raise Unfilled("second")
    size = clock_of(pattern)
    return (size, entries_beside(size, signs_of(pattern)))


def entries_beside(size, signs):
    """Entries that have all prime powers that divide the size as signs, but for these signs."""
    entries = [0]
    for prime, part in prime_parts(size):
        power = prime
        while power <= part:
            if power not in signs:
                # The polynomial is multiplied by C_power in x to the size / part, which no prime of part divides.
                step = size // part * (power // prime)
                entries = [(entry + k * step) % size for entry in entries for k in range(prime)]
            power = power * prime
    return tuple(sorted(entries))


def is_fill(pattern, size, entries):
    """Whether the sums of the elements and of these beats leave each rest by the size just once."""
    if len(pattern) * len(entries) != size:
        return False
    return sorted([(beat + entry) % size for beat in pattern for entry in entries]) == list(range(size))


def need_pair(pattern, size, entries):
    """Refuses what is no pattern, no size, or no set of beats of a clock of this size."""
    need(is_pattern(pattern), "pattern")
    need(is_size(size), "size")
    need(is_beats(size, entries), "entries")


def fills_with(pattern, size, entries):
    """Whether (size, entries) is a fill of the pattern."""
    need_pair(pattern, size, entries)
    return is_fill(pattern, size, entries)


def clock_entries(size, pattern):
    """Entries by which (size, entries) is a fill of the pattern; None if there are none."""
    need(is_size(size), "size")
    need(is_pattern(pattern), "pattern")
    # A pattern of at most twelve elements has fills only so, and of no sizes but the multiples of clock_of.
    if fill_word(pattern) == "never" or size % clock_of(pattern) != 0:
        return None
    step, entries = line_entries(pattern)
    return tuple([turn + entry for turn in range(0, size, step) for entry in entries])
