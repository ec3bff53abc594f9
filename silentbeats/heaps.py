"""Plain heaps: voices as sums of polygons that are only added."""

from silentbeats.checks import need
from silentbeats.folds import folded
from silentbeats.kinds import is_divisor
from silentbeats.polygons import heap_weights
from silentbeats.primes import primes_in
from silentbeats.signed import coset_step, need_silent
from silentbeats.silences import is_silent
from silentbeats.walks import crossed_rows


def need_heapable(voice):
    """Refuses a voice with a weight below 0, then one that is not silent at its size."""
    need(min(voice) >= 0, "voice")
    need_silent(voice)


def need_few_primes(voice):
    """Refuses a voice as need_heapable does, then one whose size has more than two primes."""
    need_heapable(voice)
    need(len(primes_in(len(voice))) <= 2, "voice")


def peeled(voice, primes):
    """Polygons of these primes in turn, each taken as often as the weights that are left allow."""
    size = len(voice)
    left = list(voice)
    rows = []
    for prime in primes:
        step = size // prime
        for first in range(step):
            many = min(left[first::step])
            if many > 0:
                rows.append((prime, first, many))
            for beat in range(first, size, step):
                left[beat] = left[beat] - many
    return rows


def plain_rows(voice):
    """A plain heap of a voice that is silent at its size, without weights below 0; None if there is none."""
    size = len(voice)
    primes = primes_in(size)
    crossed = crossed_rows(voice, primes) if len(primes) > 2 else []
    if crossed is None:
        return None
    taken = heap_weights(size, crossed)
    left = tuple([weight - less for weight, less in zip(voice, taken)])
    # Two primes bring what is left to 0 if the greater one is taken first, and as often as it can be.
    return tuple(sorted(peeled(left, primes[:2][::-1]) + crossed))


def heap_of(voice):
    """A plain heap whose voice it is; None if there is none."""
    need_heapable(voice)
    return plain_rows(voice)


def is_heap(voice):
    """Whether it is the voice of a plain heap."""
    return min(voice) >= 0 and is_silent(voice, len(voice)) and plain_rows(voice) is not None


def least_heap(voice):
    """The plain heap of the fewest polygons, on a clock of at most two primes."""
    need_few_primes(voice)
    # A trade for the greater prime takes fewer polygons; plain_rows leaves none that could be traded.
    return plain_rows(voice)


def heap_count(voice):
    """How many plain heaps have this voice, on a clock of at most two primes."""
    need_few_primes(voice)
    primes = primes_in(len(voice))
    many = 1
    if len(primes) == 2:
        step = coset_step(len(voice), primes)
        for coset in range(step):
            many = many * (1 + min(voice[coset::step]))
    return many


def heaps_at(voice, divisor):
    """A plain heap of the voice folded to the divisor; None if there is none."""
    need(is_divisor(len(voice), divisor), "divisor")
    return heap_of(folded(voice, divisor))
