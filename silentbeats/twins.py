"""Voices of strokes that share an echo, and voices with a flat one."""

from silentbeats.checks import need
from silentbeats.echoes import echo_of
from silentbeats.kin import least_kin
from silentbeats.kinds import is_number, is_size, is_strokes, is_voice
from silentbeats.voices import voice_of


def least_kin_set(size, strokes):
    """The set of the least kin of the voices of these sets of beats."""
    return tuple(sorted({least_kin(voice_of(size, beats)) for beats in strokes}))


def left_behind(left, beats, beat):
    """What is left of an echo, and a longer set, when a stroke takes its intervals to the earlier ones from it."""
    size = len(left)
    weights = list(left)
    for stroke in beats:
        for k in ((beat - stroke) % size, (stroke - beat) % size):
            weights[k] = weights[k] - 1
    return (tuple(weights), beats + (beat,))


def strokes_within(echo):
    """The sets of as many beats as the echo has at beat 0, with beat 0, whose intervals are those of the echo."""
    size = len(echo)
    reached = [(echo, (0,))]
    for _ in range(echo[0] - 1):
        grown = [left_behind(left, beats, beat) for left, beats in reached for beat in range(beats[-1] + 1, size)]
        # Intervals are only ever taken off, so that one too many is never made up for.
        reached = [(left, beats) for left, beats in grown if min(left) >= 0]
    return [beats for left, beats in reached if beats_left(left) == 0]


def beats_left(echo):
    """At how many beats but beat 0 the echo has another weight than 0."""
    return len([weight for weight in echo[1:] if weight != 0])


def strokes_with(echo):
    """The set of the least kin of all voices of strokes with this echo."""
    need(is_voice(echo), "echo")
    if not 0 <= echo[0] <= len(echo):
        return ()
    if echo[0] == 0:
        return (echo,) if beats_left(echo) == 0 else ()
    # Each voice with strokes has kin that strike beat 0.
    return least_kin_set(len(echo), strokes_within(echo))


def twins_of(voice):
    """The set of the least kin of the voices of strokes with the echo of this one, but without its own."""
    need(is_strokes(voice), "voice")
    own = least_kin(voice)
    return tuple([twin for twin in strokes_with(echo_of(voice)) if twin != own])


def need_strokes(size, many):
    """Refuses what is no size, or no number of strokes that its clock has room for."""
    need(is_size(size), "size")
    need(is_number(many) and many <= size, "many")


def sets_of(size, many):
    """All sets of so many beats with beat 0, or the one of none."""
    if many == 0:
        return [()]
    reached = [(0,)]
    for _ in range(many - 1):
        reached = [beats + (beat,) for beats in reached for beat in range(beats[-1] + 1, size)]
    return reached


def kin_classes(size, many):
    """The sets of the least kin of all voices of so many strokes, put together by their echoes."""
    need_strokes(size, many)
    pairs = [(echo_of(least), least) for least in least_kin_set(size, sets_of(size, many))]
    echoes = sorted({echo for echo, _ in pairs})
    return tuple(sorted([tuple([least for echo, least in pairs if echo == each]) for each in echoes]))


def flat_pair(voice):
    """The weight of the echo at beat 0, and that at all other beats, 0 of none; None if these are not equal."""
    first, *behind = echo_of(voice)
    off = behind[0] if behind != [] else 0
    return (first, off) if all([weight == off for weight in behind]) else None


def flat_strokes(size, many):
    """The set of the least kin of all flat voices of so many strokes."""
    need_strokes(size, many)
    pairs = many * (many - 1)
    if size == 1:
        return strokes_with((many,))
    # All intervals, two for each set of two strokes, are shared out evenly among all beats but beat 0.
    return strokes_with((many,) + (pairs // (size - 1),) * (size - 1)) if pairs % (size - 1) == 0 else ()
