"""The judge of papers on the fills of a pattern."""

from math import gcd

from silentbeats.checks import need
from silentbeats.errors import InvalidPaper
from silentbeats.kinds import is_beats, is_integer, is_pattern, is_size
from silentbeats.papers import ends_in_tuple, judge
from silentbeats.signs import divides_at, holds_first, product_of_all, signs_of


def check_fill(pattern, size, entries):
    """Judges the size and the entries of a paper with "fill"."""
    judge(is_beats(size, entries), "entries", -1)
    judge(len(entries) * len(pattern) == size, "many", -1)
    met = [False for _ in range(size)]
    for k, entry in enumerate(entries):
        for j, beat in enumerate(pattern):
            at = (entry + beat) % size
            judge(not met[at], "twice", (k, j))
            met[at] = True


def check_signs(signs, told):
    """Judges whether all that are told are signs, ascending."""
    for k, sign in enumerate(told):
        judge(is_integer(sign) and sign in signs and (k == 0 or told[k - 1] < sign), "sign", k)


def check_first(pattern, told):
    """Judges the signs of a paper with "first"."""
    signs = signs_of(pattern)
    check_signs(signs, told)
    for sign in signs:
        judge(sign in told, "lacks", sign)
    judge(not holds_first(pattern), "first", -1)


def check_second(pattern, told):
    """Judges the signs of a paper with "second"."""
    check_signs(signs_of(pattern), told)
    for k, sign in enumerate(told):
        judge(gcd(sign, product_of_all(told[:k])) == 1, "prime", k)
    judge(len(told) >= 2, "many", -1)
    judge(not divides_at(pattern, product_of_all(told)), "second", -1)


def lets_fill(pattern, thing):
    """True for a paper with "fill", False for the others; otherwise InvalidPaper."""
    need(is_pattern(pattern), "pattern")
    if ends_in_tuple(thing, "fill", 3) and is_size(thing[1]):
        check_fill(pattern, thing[1], thing[2])
        return True
    if ends_in_tuple(thing, "first", 2):
        check_first(pattern, thing[1])
        return False
    if ends_in_tuple(thing, "second", 2):
        check_second(pattern, thing[1])
        return False
    raise InvalidPaper("shape", -1)
