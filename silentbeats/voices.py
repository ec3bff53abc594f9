"""Voices: the weights at the beats of a clock, and what is made of them."""

from silentbeats.checks import need
from silentbeats.kinds import is_beats, is_integer, is_number, is_size, is_voice, is_voice_of


def voice_of(size, beats):
    """The voice that has 1 at these beats, 0 elsewhere."""
    need(is_size(size), "size")
    need(is_beats(size, beats), "beats")
    weights = [0 for _ in range(size)]
    for beat in beats:
        weights[beat] = 1
    return tuple(weights)


def beats_of(voice):
    """The set of the beats at which the weight is not 0."""
    need(is_voice(voice), "voice")
    return tuple([beat for beat, weight in enumerate(voice) if weight != 0])


def total_of(voice):
    """The sum of all weights."""
    need(is_voice(voice), "voice")
    return sum(voice)


def ones_of(size):
    """The voice of all beats."""
    need(is_size(size), "size")
    return (1,) * size


def added(one, other):
    """The sum of two voices, beat by beat."""
    need(is_voice(one), "one")
    need(is_voice_of(len(one), other), "other")
    return tuple([a + b for a, b in zip(one, other)])


def multiplied(voice, k):
    """The voice times an integer, beat by beat."""
    need(is_voice(voice), "voice")
    need(is_integer(k), "k")
    return tuple([weight * k for weight in voice])


def product_of(one, other):
    """The voice that is made when other enters at each stroke of one."""
    need(is_voice(one), "one")
    need(is_voice_of(len(one), other), "other")
    size = len(one)
    weights = [0 for _ in range(size)]
    for j, weight in enumerate(one):
        for k in range(size):
            beat = (j + k) % size
            weights[beat] = weights[beat] + weight * other[k]
    return tuple(weights)


def turned(voice, k):
    """The voice that has at beat j + k what this one has at j."""
    need(is_voice(voice), "voice")
    need(is_integer(k), "k")
    size = len(voice)
    return tuple([voice[(beat - k) % size] for beat in range(size)])


def mirrored(voice):
    """The voice that has at beat -j what this one has at j."""
    need(is_voice(voice), "voice")
    size = len(voice)
    return tuple([voice[-beat % size] for beat in range(size)])


def power_of(voice, many):
    """The product of so many voices equal to this one; the voice of beat 0 for none."""
    need(is_voice(voice), "voice")
    need(is_number(many), "many")
    reached = voice_of(len(voice), (0,))
    for _ in range(many):
        reached = product_of(reached, voice)
    return reached
