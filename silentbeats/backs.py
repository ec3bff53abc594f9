"""What is heard through a room, told back."""

from silentbeats.checks import need
from silentbeats.entries import are_entries, whole_multiple
from silentbeats.errors import Unmade
from silentbeats.quotients import lowest
from silentbeats.rooms import entries_for
from silentbeats.silences import silences_of
from silentbeats.voices import voice_of


def is_open(one):
    """Whether one is silent nowhere."""
    return silences_of(one) == ()


def back_of(one):
    """The entries whose product with one is the voice of beat 0; Unmade if one is silent somewhere."""
    # The voice of beat 0 is silent nowhere, so that each silence of one bars it.
    return entries_for(one, voice_of(len(one), (0,)))


def told_back(one, sound):
    """The only entries that are heard as the sound; Unmade if one is silent somewhere."""
    need(are_entries(len(one), sound), "sound")
    silences = silences_of(one)
    if silences != ():
        raise Unmade(silences[0])
    return entries_heard_as(one, sound)


def entries_heard_as(one, sound):
    """Entries that are heard as the sound; Unmade with the least divisor at which one alone is silent, if any."""
    voice, bottom = whole_multiple(sound)
    return tuple([lowest(top, below * bottom) for top, below in entries_for(one, voice)])
