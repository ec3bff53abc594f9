"""Papers that tell whether a voice is silent, and whether two fill evenly."""

from silentbeats.checks import need
from silentbeats.evens import bar_at
from silentbeats.kinds import is_divisor
from silentbeats.numbers import divisors_of
from silentbeats.polynomials import cyclotomic, divided, padded, polynomial_of
from silentbeats.silences import is_silent


def silence_paper(voice, divisor):
    """The paper with the factor, and with the rest if the voice is not silent at the divisor."""
    need(is_divisor(len(voice), divisor), "divisor")
    wheel = cyclotomic(divisor)
    factor, rest = divided(polynomial_of(voice), wheel)
    return ("silent", factor) if rest == () else ("sounds", factor, padded(rest, len(wheel) - 1))


def even_paper(one, other):
    """A paper on both: for each divisor above 1 one that is silent, or a divisor at which neither is."""
    bar = bar_at(one, other)
    if bar is not None:
        return ("bar", bar, silence_paper(one, bar), silence_paper(other, bar))
    return ("even", tuple([silent_row(one, other, divisor) for divisor in divisors_of(len(one))[1:]]))


def silent_row(one, other, divisor):
    """The index of the first of both that is silent at the divisor, and its paper."""
    index = 0 if is_silent(one, divisor) else 1
    return (index, silence_paper((one, other)[index], divisor))
