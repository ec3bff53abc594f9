"""The judge of papers on plain heaps."""

from silentbeats.errors import InvalidPaper
from silentbeats.kinds import are_integers, is_beat
from silentbeats.papers import ends_in_tuple, judge, judge_beats
from silentbeats.polygons import heap_weights, is_row
from silentbeats.primes import primes_in
from silentbeats.signed import coset_step
from silentbeats.silences import is_silent, rest_at
from silentbeats.walks import walk_sum


def check_rows(voice, rows, plain):
    """Judges the rows of a paper with "heap", which are plain, or with "signed"."""
    size = len(voice)
    for k, row in enumerate(rows):
        judge(is_row(size, row) and (row[2] > 0 or not plain), "row", k)
        judge(k == 0 or rows[k - 1][:2] < row[:2], "row", k)
    judge_beats(heap_weights(size, rows), voice)


def check_rest(voice, rest):
    """Judges the rest of a paper with "rest"."""
    size = len(voice)
    judge(are_integers(rest) and rest == rest_at(voice, size) and not is_silent(voice, size), "rest", -1)


def is_step(primes, thing):
    """Whether it is a pair of a number below the first of the primes and of one below the second."""
    return are_integers(thing) and len(thing) == 2 and is_beat(primes[0], thing[0]) and is_beat(primes[1], thing[1])


def check_barred(voice, coset, walk):
    """Judges the coset and the walk of a paper with "barred"."""
    primes = primes_in(len(voice))
    judge(len(primes) == 3 and is_beat(coset_step(len(voice), primes), coset), "coset", -1)
    for k, step in enumerate(walk):
        judge(is_step(primes, step), "pair", k)
    # An empty walk has the sum 0, and bars nothing.
    judge(walk_sum(voice, primes, coset, walk) < 0, "walk", -1)


def lets_heap(voice, thing):
    """True for a paper with "heap", False for "rest" and "barred", None for "signed"; otherwise InvalidPaper."""
    if ends_in_tuple(thing, "heap", 2):
        check_rows(voice, thing[1], True)
        return True
    if ends_in_tuple(thing, "signed", 2):
        check_rows(voice, thing[1], False)
        return None
    if ends_in_tuple(thing, "rest", 2):
        check_rest(voice, thing[1])
        return False
    if ends_in_tuple(thing, "barred", 3):
        check_barred(voice, thing[1], thing[2])
        return False
    raise InvalidPaper("shape", -1)
