"""Regular polygons on a clock, and heaps of them."""

from silentbeats.checks import need
from silentbeats.kinds import are_integers, is_beat, is_prime, is_size, is_voice_of
from silentbeats.primes import primes_in


def is_prime_of(size, thing):
    """Whether it is a prime divisor of the size."""
    return is_prime(thing) and size % thing == 0


def is_polygon(size, thing):
    """Whether it is a pair (prime, first) of a polygon of a clock of this size."""
    if not (are_integers(thing) and len(thing) == 2):
        return False
    return is_prime_of(size, thing[0]) and is_beat(size // thing[0], thing[1])


def is_row(size, thing):
    """Whether it is a polygon of a clock of this size, and how many times it is taken, other than 0."""
    return are_integers(thing) and len(thing) == 3 and is_polygon(size, thing[:2]) and thing[2] != 0


def are_rows(size, thing):
    """Whether it is a heap of a clock of this size."""
    if not (isinstance(thing, tuple) and all([is_row(size, row) for row in thing])):
        return False
    return all([low[:2] < high[:2] for low, high in zip(thing, thing[1:])])


def are_plain(rows):
    """Whether this heap is a plain one."""
    return all([many > 0 for _, _, many in rows])


def heap_weights(size, rows):
    """The weights that these polygons, each taken its many times, have together."""
    weights = [0 for _ in range(size)]
    for prime, first, many in rows:
        for beat in range(first, size, size // prime):
            weights[beat] = weights[beat] + many
    return tuple(weights)


def polygon(size, prime, first):
    """The voice of so many strokes, evenly apart, from the beat first on."""
    need(is_size(size), "size")
    need(is_prime_of(size, prime), "prime")
    need(is_beat(size // prime, first), "first")
    return heap_weights(size, ((prime, first, 1),))


def polygons_of(size):
    """The set of the pairs (prime, first) of all polygons of a clock of this size."""
    need(is_size(size), "size")
    return tuple([(prime, first) for prime in primes_in(size) for first in range(size // prime)])


def heap_voice(size, rows):
    """The voice of the heap."""
    need(is_size(size), "size")
    need(are_rows(size, rows), "rows")
    return heap_weights(size, rows)


def is_sum(size, thing, voice):
    """Whether it is a heap of a clock of this size whose voice is voice."""
    need(is_size(size), "size")
    return are_rows(size, thing) and is_voice_of(size, voice) and heap_weights(size, thing) == voice
