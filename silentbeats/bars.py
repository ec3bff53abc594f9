"""Voices of no plain heap, and how many strokes there are where voices are silent."""

from silentbeats.checks import need
from silentbeats.kinds import is_number, is_size
from silentbeats.primes import primes_in
from silentbeats.signed import coset_step
from silentbeats.voices import voice_of


def bar_voice(size):
    """A voice of strokes that is silent at the size and of no plain heap; None for at most two primes."""
    need(is_size(size), "size")
    primes = primes_in(size)
    if len(primes) < 3:
        return None
    twos, threes, fives = [list(range(size // prime, size, size // prime)) for prime in primes[:3]]
    both = [(one + other) % size for one in twos for other in threes]
    return voice_of(size, tuple(sorted(both + fives)))


def stroke_counts(size, most):
    """The set of the totals up to most of voices silent at the size without weights below 0; None if not told."""
    need(is_size(size), "size")
    need(is_number(most), "most")
    primes = primes_in(size)
    if len(primes) > 2 and size % 6 != 0:
        return None
    reached = [True]
    for total in range(1, most + 1):
        reached.append(any([total >= prime and reached[total - prime] for prime in primes]))
    return tuple([total for total in range(most + 1) if reached[total]])


def stroke_heaps(size):
    """The set of how many strokes voices of strokes have that are silent at the size; None for three primes."""
    need(is_size(size), "size")
    primes = primes_in(size)
    if len(primes) > 2:
        return None
    step = coset_step(size, primes)
    # Strokes of one coset that are silent are polygons of one prime, none of which meet.
    full = size // step
    once = [0] + [strokes for strokes in range(1, full + 1) if any([strokes % prime == 0 for prime in primes])]
    reached = [0]
    for _ in range(step):
        reached = sorted({strokes + more for strokes in reached for more in once})
    return tuple(reached)
