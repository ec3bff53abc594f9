"""The judge of papers on voices that have one echo, or not."""

from silentbeats.checks import need
from silentbeats.echoes import crossed, echo_of, same_echo
from silentbeats.errors import InvalidPaper
from silentbeats.kinds import is_beat, is_integer, is_size, is_voice_of
from silentbeats.papers import begins, judge
from silentbeats.voices import mirrored, multiplied, product_of, turned


def judge_weights(found, wanted, word):
    """Rejects the paper with the word and the first beat at which the weights differ."""
    for beat, weight in enumerate(found):
        judge(weight == wanted[beat], word, beat)


def check_turned(one, other, word, k):
    """Judges a paper that other is one, handed in as the word says, turned by k."""
    judge(is_beat(len(one), k), "k", -1)
    judge_weights(turned(one, k), other, word)


def check_unlike(one, other, k):
    """Judges a paper with "unlike"."""
    judge(is_beat(len(one), k), "k", -1)
    judge(echo_of(one)[k] != echo_of(other)[k], "unlike", -1)


def check_mixed(one, other, told):
    """Judges what stands behind the word of a paper with "mixed"."""
    size = len(one)
    sign, turn, many, u, v = told
    judge(is_integer(sign) and (sign == 1 or sign == -1), "sign", -1)
    judge(is_beat(size, turn), "turn", -1)
    judge(is_size(many), "many", -1)
    judge(is_voice_of(size, u), "u", -1)
    judge(is_voice_of(size, v), "v", -1)
    judge_weights(product_of(u, v), multiplied(one, many), "product")
    judge_weights(crossed(u, v), multiplied(turned(other, turn), sign * many), "crossed")


def lets_kin(one, other, thing):
    """Whether both echoes are equal, by the paper; otherwise InvalidPaper."""
    need(is_voice_of(len(one), other), "other")
    if begins(thing, "turned", 2):
        check_turned(one, other, "turned", thing[1])
    elif begins(thing, "mirrored", 2):
        check_turned(mirrored(one), other, "mirrored", thing[1])
    elif begins(thing, "unlike", 2):
        check_unlike(one, other, thing[1])
    elif begins(thing, "mixed", 6):
        check_mixed(one, other, thing[1:])
    else:
        raise InvalidPaper("shape", -1)
    return same_echo(one, other)
