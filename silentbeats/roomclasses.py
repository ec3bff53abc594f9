"""Rooms as objects that never change."""

from silentbeats.backs import back_of, entries_heard_as, is_open
from silentbeats.checks import need
from silentbeats.entries import are_entries
from silentbeats.kinds import is_voice, is_voice_of
from silentbeats.rooms import can_make, heard
from silentbeats.silences import silences_of
from silentbeats.voices import turned
from silentbeats.wholes import room_index


class Room:
    """The room that is this voice."""

    def __init__(self, voice):
        need(is_voice(voice), "voice")
        self._voice = voice
        self._turns = [turned(voice, k) for k in range(len(voice))]

    @property
    def voice_now(self):
        """The voice as a tuple."""
        return self._voice

    @property
    def silences_now(self):
        """The set of the divisors at which the room is silent."""
        return silences_of(self._voice)

    @property
    def index_now(self):
        """How many voices that the room makes differ, two by two, by none that it makes wholly."""
        return room_index(self._voice)

    def __call__(self, entries):
        return heard(self._voice, entries)

    def back(self, sound):
        """Entries that are heard as the sound; Unmade if there are none."""
        need(are_entries(len(self._voice), sound), "sound")
        return entries_heard_as(self._voice, sound)

    def makes(self, thing):
        """Whether it is a voice of the room's size that the room makes."""
        return is_voice_of(len(self._voice), thing) and can_make(self._voice, thing)

    def __iter__(self):
        return iter(self._turns)

    def __len__(self):
        return len(self._voice)

    def __contains__(self, x):
        return is_voice(x) and x in self._turns

    def __eq__(self, other):
        return isinstance(other, Room) and self._voice == other._voice


class Open(Room):
    """A room that is silent nowhere."""

    def __init__(self, voice):
        need(is_voice(voice) and is_open(voice), "voice")
        super().__init__(voice)

    @property
    def back_now(self):
        """The entries that are heard as the voice of beat 0."""
        return back_of(self._voice)
