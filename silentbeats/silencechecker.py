"""The judges of papers on silences and on even fills."""

from silentbeats.checks import need
from silentbeats.errors import InvalidPaper
from silentbeats.kinds import are_integers, is_divisor, is_integer, is_polynomial, is_voice_of
from silentbeats.numbers import divisors_of, totient_of
from silentbeats.papers import begins, ends_in_tuple, judge
from silentbeats.polynomials import cyclotomic, plus, polynomial_of, times, trimmed


def is_rest(divisor, thing):
    """Whether it is a tuple of as many integers as C_divisor has degree, not all 0."""
    return are_integers(thing) and len(thing) == totient_of(divisor) and trimmed(thing) != ()


def silence_fault(voice, divisor, thing):
    """The word for what is wrong with the paper; None if nothing is."""
    silent = begins(thing, "silent", 2)
    if not silent and not begins(thing, "sounds", 3):
        return "shape"
    if not is_polynomial(thing[1]):
        return "factor"
    if not silent and not is_rest(divisor, thing[2]):
        return "rest"
    rest = () if silent else trimmed(thing[2])
    told = plus(times(cyclotomic(divisor), thing[1]), rest)
    return None if told == polynomial_of(voice) else "product"


def tells(voice, divisor, thing, word):
    """Whether it is the right paper, and begins with the word."""
    return silence_fault(voice, divisor, thing) is None and thing[0] == word


def lets_silence(voice, divisor, thing):
    """True for the right paper with "silent", False for that with "sounds"; otherwise InvalidPaper."""
    need(is_divisor(len(voice), divisor), "divisor")
    fault = silence_fault(voice, divisor, thing)
    judge(fault is None, fault, -1)
    return thing[0] == "silent"


def check_even(one, other, rows):
    """Judges the rows of a paper with "even"."""
    divisors = divisors_of(len(one))[1:]
    judge(len(rows) == len(divisors), "many", -1)
    for k, row in enumerate(rows):
        judge(isinstance(row, tuple) and len(row) == 2 and is_integer(row[0]) and 0 <= row[0] <= 1, "row", k)
        judge(tells((one, other)[row[0]], divisors[k], row[1], "silent"), "paper", k)


def check_bar(one, other, divisor, papers):
    """Judges the divisor and the two papers of a paper with "bar"."""
    judge(is_divisor(len(one), divisor) and divisor != 1, "divisor", -1)
    for k, voice in enumerate((one, other)):
        judge(tells(voice, divisor, papers[k], "sounds"), "paper", k)


def lets_even(one, other, thing):
    """True for a paper with "even", False for one with "bar"; otherwise InvalidPaper."""
    need(is_voice_of(len(one), other), "other")
    if ends_in_tuple(thing, "even", 2):
        check_even(one, other, thing[1])
        return True
    if begins(thing, "bar", 4):
        check_bar(one, other, thing[1], thing[2:])
        return False
    raise InvalidPaper("shape", -1)
