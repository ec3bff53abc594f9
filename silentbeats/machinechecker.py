"""The judge of papers on machines."""

from silentbeats.errors import InvalidPaper
from silentbeats.machines import are_digits, need_prime, step_of
from silentbeats.papers import begins, judge
from silentbeats.voices import voice_of


def lets_back(voice, prime, thing):
    """Whether the machine goes back, by the paper; otherwise InvalidPaper."""
    need_prime(prime)
    back = begins(thing, "back", 2)
    if not back and not begins(thing, "both", 2):
        raise InvalidPaper("shape", -1)
    size = len(voice)
    state = thing[1]
    noughts = (0,) * size
    judge(are_digits(size, prime, state) and (back or state != noughts), "state", -1)
    judge(step_of(voice, prime, state) == (voice_of(size, (0,)) if back else noughts), "product", -1)
    return back
