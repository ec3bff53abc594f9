"""The events of a live score: their form, what bars them, and what they make of its voices.

The voices of a score are the set of the pairs (name, voice).
"""

from math import gcd

from silentbeats.folds import stretched
from silentbeats.kinds import is_integer, is_name, is_size, is_voice
from silentbeats.voices import product_of, turned

LOUDEST = 1000
MOST_BEATS = 36


def is_score_size(thing):
    """Whether it is an integer from 1 to thirty-six."""
    return is_size(thing) and thing <= MOST_BEATS


def is_event(thing):
    """Whether it is an event by form."""
    if not isinstance(thing, tuple) or not 2 <= len(thing) <= 3 or not is_name(thing[1]):
        return False
    if len(thing) == 2:
        return thing[0] == "leave"
    if thing[0] == "enter":
        return is_voice(thing[2])
    if thing[0] == "play":
        return is_name(thing[2])
    return (thing[0] == "turn" or thing[0] == "stretch") and is_integer(thing[2])


def by_names(voices):
    """The voices by their names."""
    return {name: voice for name, voice in voices}


def is_loud(voice):
    """Whether a weight of the voice is too great, or too far below 0, for a score."""
    return max(voice) > LOUDEST or min(voice) < -LOUDEST


def voice_made(voices, event):
    """The voice that the name of a possible event other than "leave" has behind it."""
    if event[0] == "enter":
        return event[2]
    there = by_names(voices)
    voice = there[event[1]]
    if event[0] == "turn":
        return turned(voice, event[2])
    if event[0] == "stretch":
        return stretched(voice, event[2])
    return product_of(voice, there[event[2]])


def voices_behind(voices, event):
    """The voices of the score behind a possible event."""
    kept = [pair for pair in voices if pair[0] != event[1]]
    made = [] if event[0] == "leave" else [(event[1], voice_made(voices, event))]
    return tuple(sorted(kept + made))


def reason_against(size, is_full, voices, event):
    """The first reason for which a score of this size, full or not, with these voices refuses any value; or None."""
    if not is_event(event) or (event[0] == "enter" and len(event[2]) != size):
        return "shape"
    if is_full:
        return "full"
    names = [name for name, _ in voices]
    if (event[0] == "enter") == (event[1] in names):
        return "name"
    if event[0] == "play" and event[2] not in names:
        return "other"
    if event[0] == "stretch" and gcd(event[2], size) != 1:
        return "apart"
    if event[0] in ("enter", "play") and is_loud(voice_made(voices, event)):
        return "loud"
    return None
