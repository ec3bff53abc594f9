"""What a fill shares between pattern and entries, and how many fills there are."""

from math import gcd

from silentbeats.checks import need
from silentbeats.kinds import is_pattern, is_size
from silentbeats.linefills import is_fill, need_pair
from silentbeats.primes import prime_parts
from silentbeats.signs import has_sign


def need_fill(pattern, size, entries):
    """Refuses what need_pair does, then entries that are of no fill."""
    need_pair(pattern, size, entries)
    need(is_fill(pattern, size, entries), "entries")


def powers_in(size):
    """The pairs of each prime power that divides the size, ascending, and of its prime."""
    powers = []
    for prime, part in prime_parts(size):
        power = prime
        while power <= part:
            powers.append((power, prime))
            power = power * prime
    return sorted(powers)


def signs_shared(pattern, size, entries):
    """For each prime power that divides the size, whether it is a sign of the pattern, or of the entries."""
    need_fill(pattern, size, entries)
    return tuple([
        (power, "pattern" if has_sign(pattern, power, prime) else "entries") for power, prime in powers_in(size)
    ])


def lean_fill(pattern, size, entries):
    """The fill of the pattern on the clock whose size has no primes but those of the number of elements."""
    need_fill(pattern, size, entries)
    k = size
    while gcd(k, len(pattern)) > 1:
        k = k // gcd(k, len(pattern))
    return (size // k, tuple([entry // k for entry in entries if entry % k == 0]))


def all_fills(size, pattern):
    """How many sets of entries there are by which (size, entries) is a fill."""
    need(is_size(size), "size")
    need(is_pattern(pattern), "pattern")
    turns = [[(beat + entry) % size for beat in pattern] for entry in range(size)]
    return covers(turns, list(range(size)))


def covers(turns, free):
    """In how many ways some of these turns of a pattern cover each free beat once, and no other."""
    if free == []:
        return 1
    many = 0
    for beats in turns:
        left = [beat for beat in free if beat not in beats]
        # A turn with two strokes at one beat takes fewer beats than it has strokes, and so does not fit.
        if free[0] in beats and len(left) + len(beats) == len(free):
            many = many + covers(turns, left)
    return many
