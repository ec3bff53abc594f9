"""Papers that tell whether a machine goes back."""

from silentbeats.machines import back_voice, common_factor, round_by
from silentbeats.polynomials import padded
from silentbeats.residues import parted_by


def back_paper(voice, prime):
    """A paper with the voice that undoes each step, or with a state that a step leads to noughts."""
    back = back_voice(voice, prime)
    if back is not None:
        return ("back", back)
    size = len(voice)
    lost = parted_by(round_by(size, prime), common_factor(voice, prime), prime)[0]
    return ("both", padded(lost, size))
