"""All voices of one size that are silent at some divisors, as an object that never changes."""

from silentbeats.checks import need
from silentbeats.kinds import is_voice, is_voice_of
from silentbeats.numbers import divisors_of
from silentbeats.silences import factor_of, is_silent, silences_of, silent_basis, silent_from


class Silences:
    """The voices of this size silent at all these divisors."""

    def __init__(self, size, divisors):
        self._rows = silent_basis(size, divisors)
        self._size = size
        self._divisors = divisors

    @classmethod
    def of(cls, voice):
        """The Silences of all divisors at which the voice is silent."""
        need(is_voice(voice), "voice")
        return cls(len(voice), silences_of(voice))

    @property
    def size_now(self):
        """How many beats the clock has."""
        return self._size

    @property
    def divisors_now(self):
        """The set of the divisors at which all these voices are silent."""
        return self._divisors

    @property
    def factor_now(self):
        """The product of C_d for all these divisors."""
        return factor_of(self._divisors)

    def lacking(self, voice):
        """The set of these divisors at which the voice is not silent."""
        need(is_voice_of(self._size, voice), "voice")
        return tuple([divisor for divisor in self._divisors if not is_silent(voice, divisor)])

    def __contains__(self, x):
        return is_voice_of(self._size, x) and self.lacking(x) == ()

    def __len__(self):
        return len(self._rows)

    def __iter__(self):
        return iter(self._rows)

    def __call__(self, weights):
        return silent_from(self._size, self._divisors, weights)

    def __eq__(self, other):
        return isinstance(other, Silences) and self._size == other._size and self._divisors == other._divisors

    def _divisors_of(self, other):
        need(isinstance(other, Silences) and other._size == self._size, "other")
        return other._divisors

    def __and__(self, other):
        more = self._divisors_of(other)
        either = tuple([d for d in divisors_of(self._size) if d in self._divisors or d in more])
        return Silences(self._size, either)

    def __or__(self, other):
        more = self._divisors_of(other)
        both = tuple([d for d in self._divisors if d in more])
        return Silences(self._size, both)

    def lies_in(self, other):
        """Whether each of these voices is in other."""
        return all([d in self._divisors for d in self._divisors_of(other)])
