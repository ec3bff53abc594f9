"""Papers that tell whether a voice is that of a plain heap."""

from silentbeats.heaps import plain_rows
from silentbeats.signed import signed_heap
from silentbeats.silences import is_silent, rest_at
from silentbeats.walks import barring


def heap_paper(voice):
    """A paper with the rest, with a signed heap if a weight is below 0, with a plain heap, or with a walk that bars."""
    size = len(voice)
    if not is_silent(voice, size):
        return ("rest", rest_at(voice, size))
    if min(voice) < 0:
        return ("signed", signed_heap(voice))
    rows = plain_rows(voice)
    return ("heap", rows) if rows is not None else ("barred",) + barring(voice)
