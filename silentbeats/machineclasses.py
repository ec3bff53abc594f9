"""Machines as objects that never change."""

from silentbeats.checks import need
from silentbeats.kinds import is_number, is_prime, is_voice
from silentbeats.machines import after, are_digits, back_voice, goes_back, need_state, step_of
from silentbeats.residues import digits_of
from silentbeats.rounds import rounds_of
from silentbeats.voices import product_of


class Machine:
    """The machine of this voice, modulo this prime."""

    def __init__(self, voice, prime):
        need(is_voice(voice), "voice")
        need(is_prime(prime), "prime")
        self._voice = voice
        self._prime = prime

    @property
    def voice_now(self):
        """The voice as a tuple."""
        return self._voice

    @property
    def prime_now(self):
        """The prime."""
        return self._prime

    @property
    def digits_now(self):
        """The weights of the voice, modulo the prime."""
        return digits_of(self._voice, self._prime)

    @property
    def is_back(self):
        """Whether the machine goes back."""
        return goes_back(self._voice, self._prime)

    def __call__(self, state):
        return step_of(self._voice, self._prime, state)

    def after(self, state, many):
        """The state to which so many steps lead."""
        return after(self._voice, self._prime, state, many)

    def walk(self, state, many):
        """The states behind 0, 1 and so on to many steps."""
        need_state(self._voice, self._prime, state)
        need(is_number(many), "many")
        states = [state]
        for _ in range(many):
            states.append(step_of(self._voice, self._prime, states[-1]))
        return tuple(states)

    def rounds(self):
        """The set of the pairs of each length of a round, and of how many rounds have it."""
        return rounds_of(self._voice, self._prime)

    def __contains__(self, x):
        return are_digits(len(self._voice), self._prime, x)

    def __len__(self):
        return len(self._voice)

    def _is_kin(self, other):
        return isinstance(other, Machine) and len(other._voice) == len(self._voice) and other._prime == self._prime

    def __eq__(self, other):
        # A step leads the state with 1 at beat 0 alone to the digits: so these alone tell where each step leads.
        return self._is_kin(other) and other.digits_now == self.digits_now

    def __mul__(self, other):
        need(self._is_kin(other), "other")
        return Machine(product_of(self._voice, other._voice), self._prime)

    def back(self):
        """The Machine that undoes each step; None without one."""
        digits = back_voice(self._voice, self._prime)
        return None if digits is None else Machine(digits, self._prime)
