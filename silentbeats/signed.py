"""Heaps, in which polygons may be taken off, for all voices that are silent at the size of their clock."""

from silentbeats.errors import Unsilent
from silentbeats.primes import primes_in
from silentbeats.silences import is_silent, rest_at


def need_silent(voice):
    """Raises Unsilent with the rest at the size unless the voice is silent there."""
    size = len(voice)
    if not is_silent(voice, size):
        raise Unsilent(rest_at(voice, size))


def coset_step(size, primes):
    """How far apart the beats of a coset are: the size divided by all these primes, which divide it."""
    step = size
    for prime in primes:
        step = step // prime
    return step


def signed_heap(voice):
    """A heap whose voice it is; Unsilent if the voice is not silent at its size."""
    need_silent(voice)
    size = len(voice)
    primes = primes_in(size)
    step = coset_step(size, primes)
    left = list(voice)
    rows = []
    # Each polygon of a prime meets just one of the beats that are cleared for it, and each polygon of another
    # prime lies in these wholly or not at all. So beats cleared once remain clear; and with beats cleared for
    # each of the primes, no voice but 0 is silent at the size.
    for prime in primes:
        reach = size // prime
        for beat in range(size):
            many = left[beat]
            if beat // step % prime == 0 and many != 0:
                rows.append((prime, beat % reach, many))
                for stroke in range(beat % reach, size, reach):
                    left[stroke] = left[stroke] - many
    return tuple(sorted(rows))
