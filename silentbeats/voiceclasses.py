"""Voices as objects that never change."""

from silentbeats.checks import need, need_each
from silentbeats.errors import NotUsable
from silentbeats.kinds import is_beat, is_integer, is_size
from silentbeats.voicechecker import lets_voice
from silentbeats.voicereadings import read_voice
from silentbeats.voices import added, beats_of, mirrored, multiplied, power_of, product_of, total_of, turned, voice_of
from silentbeats.voicetexts import voice_line


class Voice:
    """The voice of some weights."""

    def __init__(self, *weights):
        if len(weights) == 0:
            raise NotUsable("weights", 0)
        need_each([is_integer(weight) for weight in weights], "weights")
        self._weights = weights

    @staticmethod
    def of(thing):
        """The Voice of a voice; the errors of lets_voice for any other value."""
        lets_voice(thing)
        return Voice(*thing)

    @staticmethod
    def read(text):
        """The Voice that is so written; the errors of read_voice."""
        weights = read_voice(text)
        return Voice(*weights)

    @property
    def voice_now(self):
        """The voice as a tuple."""
        return self._weights

    @property
    def size_now(self):
        """How many beats the clock has."""
        return len(self._weights)

    @property
    def total_now(self):
        """The sum of all weights."""
        return total_of(self._weights)

    @property
    def beats_now(self):
        """The set of the beats at which the weight is not 0."""
        return beats_of(self._weights)

    def __getitem__(self, at):
        need(is_beat(len(self._weights), at), "beat")
        return self._weights[at]

    def __call__(self, k):
        weights = turned(self._weights, k)
        return Voice(*weights)

    def __contains__(self, x):
        return is_integer(x) and x in beats_of(self._weights)

    def __len__(self):
        return len(self._weights)

    def __iter__(self):
        return iter(self._weights)

    def __str__(self):
        return str(voice_line(self._weights))

    def __eq__(self, other):
        return isinstance(other, Voice) and self._weights == other._weights

    def _weights_of(self, other):
        need(isinstance(other, Voice) and len(other._weights) == len(self._weights), "other")
        return other._weights

    def __add__(self, other):
        weights = added(self._weights, self._weights_of(other))
        return Voice(*weights)

    def __sub__(self, other):
        weights = added(self._weights, multiplied(self._weights_of(other), -1))
        return Voice(*weights)

    def __mul__(self, other):
        if is_integer(other):
            weights = multiplied(self._weights, other)
        else:
            weights = product_of(self._weights, self._weights_of(other))
        return Voice(*weights)

    def __neg__(self):
        weights = multiplied(self._weights, -1)
        return Voice(*weights)

    def __invert__(self):
        weights = mirrored(self._weights)
        return Voice(*weights)

    def __pow__(self, other):
        weights = power_of(self._weights, other)
        return Voice(*weights)


class Strokes(Voice):
    """The voice of some beats, which may be named in any order."""

    def __init__(self, size, *beats):
        need(is_size(size), "size")
        need_each([is_beat(size, beat) and beat not in beats[:k] for k, beat in enumerate(beats)], "beats")
        weights = voice_of(size, tuple(sorted(beats)))
        super().__init__(*weights)

    def _beats_of(self, other):
        need(isinstance(other, Strokes) and len(other._weights) == len(self._weights), "other")
        return beats_of(other._weights)

    def __or__(self, other):
        size = len(self._weights)
        mine = beats_of(self._weights)
        more = self._beats_of(other)
        beats = [beat for beat in range(size) if beat in mine or beat in more]
        return Strokes(size, *beats)

    def __and__(self, other):
        more = self._beats_of(other)
        beats = [beat for beat in beats_of(self._weights) if beat in more]
        return Strokes(len(self._weights), *beats)

    def others(self):
        """The Strokes of all other beats."""
        size = len(self._weights)
        mine = beats_of(self._weights)
        beats = [beat for beat in range(size) if beat not in mine]
        return Strokes(size, *beats)
