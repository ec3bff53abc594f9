"""The judges of papers on what a room makes."""

from silentbeats.checks import need
from silentbeats.entries import are_entries, measure_of, parted
from silentbeats.errors import InvalidPaper
from silentbeats.kinds import are_integers, is_divisor, is_voice_of
from silentbeats.papers import ends_in_tuple, judge, judge_beats
from silentbeats.rooms import heard
from silentbeats.silences import is_silent, rest_at
from silentbeats.voices import product_of, turned


def check_made(one, other, entries):
    """Judges the entries of a paper with "made"."""
    judge(are_entries(len(one), entries), "entries", -1)
    judge_beats(heard(one, entries), parted(other, 1))


def check_silent(one, other, divisor, rest):
    """Judges the divisor and the rest of a paper with "silent"."""
    judge(is_divisor(len(one), divisor), "divisor", -1)
    judge(is_silent(one, divisor), "sounds", -1)
    judge(are_integers(rest) and rest == rest_at(other, divisor), "rest", -1)
    judge(not is_silent(other, divisor), "nought", -1)


def lets_made(one, other, thing):
    """True for a paper with "made", False for one with "silent"; otherwise InvalidPaper."""
    need(is_voice_of(len(one), other), "other")
    if ends_in_tuple(thing, "made", 2):
        check_made(one, other, thing[1])
        return True
    if ends_in_tuple(thing, "silent", 3):
        check_silent(one, other, thing[1], thing[2])
        return False
    raise InvalidPaper("shape", -1)


def check_whole(one, other, entries):
    """Judges the integers of a paper with "whole"."""
    judge(is_voice_of(len(one), entries), "entries", -1)
    judge_beats(product_of(one, entries), other)


def check_room_bar(one, other, entries):
    """Judges the tuple of a paper with "bar"."""
    judge(are_entries(len(one), entries), "entries", -1)
    for k in range(len(one)):
        judge(measure_of(entries, turned(one, k))[1] == 1, "turn", k)
    judge(measure_of(entries, other)[1] != 1, "other", -1)


def lets_whole(one, other, thing):
    """True for a paper with "whole", False for one with "bar"; otherwise InvalidPaper."""
    need(is_voice_of(len(one), other), "other")
    if ends_in_tuple(thing, "whole", 2):
        check_whole(one, other, thing[1])
        return True
    if ends_in_tuple(thing, "bar", 2):
        check_room_bar(one, other, thing[1])
        return False
    raise InvalidPaper("shape", -1)
