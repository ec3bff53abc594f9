"""Echoes as objects that never change."""

from silentbeats.checks import need
from silentbeats.echoes import echo_of, the_others
from silentbeats.kin import kin_step
from silentbeats.kinds import is_beat, is_voice, is_voice_of
from silentbeats.voices import product_of


class Echo:
    """The echo of this voice."""

    def __init__(self, voice):
        need(is_voice(voice), "voice")
        self._voice = voice
        self._echo = echo_of(voice)

    @property
    def voice_now(self):
        """The voice as a tuple."""
        return self._voice

    @property
    def echo_now(self):
        """Its echo as a tuple."""
        return self._echo

    def __getitem__(self, at):
        need(is_beat(len(self._echo), at), "k")
        return self._echo[at]

    def __len__(self):
        return len(self._echo)

    def __iter__(self):
        return iter(self._echo)

    def __contains__(self, x):
        return is_voice_of(len(self._echo), x) and echo_of(x) == self._echo

    def __eq__(self, other):
        return isinstance(other, Echo) and self._echo == other._echo

    def _voice_of(self, other):
        need(isinstance(other, Echo) and len(other._voice) == len(self._voice), "other")
        return other._voice

    def __mul__(self, other):
        return Echo(product_of(self._voice, self._voice_of(other)))

    def __invert__(self):
        return Echo(the_others(self._voice))

    def kin_with(self, other):
        """How the voice, or its mirror, turned, is that of the other Echo; None if they are no kin."""
        return kin_step(self._voice, self._voice_of(other))
