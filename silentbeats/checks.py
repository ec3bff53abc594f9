"""How a function refuses a value that it is passed."""

from silentbeats.errors import NotUsable


def need(fits, word):
    """Refuses the parameter of this name unless it fits."""
    if not fits:
        raise NotUsable(word, -1)


def need_each(fits, word):
    """Refuses the parameters of this name for the first of them that does not fit."""
    for k, fit in enumerate(fits):
        if not fit:
            raise NotUsable(word, k)
