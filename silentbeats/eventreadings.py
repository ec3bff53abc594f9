"""Lines of events and logs read back."""

from silentbeats.checks import need
from silentbeats.errors import InvalidText
from silentbeats.kinds import is_name
from silentbeats.liveevents import is_score_size
from silentbeats.voicereadings import integer_in

# What stands behind the first word of each line; the last one of "enter" may come again.
PLACES = {
    "enter": ("name", "integer"),
    "leave": ("name",),
    "turn": ("name", "integer"),
    "stretch": ("name", "integer"),
    "play": ("name", "name"),
    "score": ("size",),
}


def places_of(words):
    """What stands behind the first of these words, which begins a line."""
    places = PLACES[words[0]]
    return places + places[1:] * (len(words) - 3) if words[0] == "enter" else places


def value_in(place, word):
    """The name, the integer or the size that is so written; None if there is none."""
    if place == "name":
        return word if is_name(word) else None
    number = integer_in(word)
    return number if place == "integer" or is_score_size(number) else None


def read_line(text):
    """The word and the values of any line, and -1; or None, and the index of the first word that cannot stand."""
    words = text.split(" ")
    if words[0] not in PLACES:
        return (None, 0)
    places = places_of(words)
    values = [value_in(place, word) for place, word in zip(places, words[1:])]
    if None in values:
        return (None, values.index(None) + 1)
    if len(values) < len(places) or len(words) > len(places) + 1:
        return (None, len(values) + 1)
    if words[0] == "enter":
        return (("enter", values[0], tuple(values[1:])), -1)
    return (tuple(words[:1] + values), -1)


def read_as(text, of_score):
    """As read_line, for the line of a score alone, or for that of an event alone."""
    return read_line(text) if (text.split(" ")[0] == "score") == of_score else (None, 0)


def checked(line, told):
    """What is read of this line; InvalidText if it cannot stand."""
    thing, field = told
    if thing is None:
        raise InvalidText(line, field)
    return thing


def read_event(text):
    """The event that event_line writes so."""
    need(isinstance(text, str), "text")
    return checked(0, read_as(text, False))


def are_lines(thing):
    """Whether it is a list of strings without newlines."""
    return isinstance(thing, list) and all([isinstance(line, str) and "\n" not in line for line in thing])


def read_log(lines):
    """The log that log_lines writes so."""
    need(are_lines(lines), "lines")
    if lines == []:
        raise InvalidText(0, 0)
    return tuple([checked(k, read_as(line, k == 0)) for k, line in enumerate(lines)])
