"""Papers that tell whether a pattern has a fill."""

from silentbeats.linefills import line_entries
from silentbeats.signs import broken_second, holds_first, signs_of


def fill_paper(pattern):
    """A paper with a fill of the pattern, or with the signs that bar one by (T1), or by (T2)."""
    if not holds_first(pattern):
        return ("first", signs_of(pattern))
    powers = broken_second(pattern)
    return ("fill",) + line_entries(pattern) if powers is None else ("second", powers)
