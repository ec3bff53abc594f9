"""A desk that is told rows, and answers by strings."""

from silentbeats.checks import need
from silentbeats.deskanswers import answer_to
from silentbeats.errors import InvalidRow
from silentbeats.eventreadings import read_as
from silentbeats.live import LiveScore


class Desk:
    """A desk, at first without a live score."""

    def __init__(self):
        self._live = None
        self._calls = 0

    def say(self, row):
        """The answer to the row; InvalidRow for a row that a desk does not know."""
        self._calls = self._calls + 1
        need(isinstance(row, str), "row")
        head, _ = read_as(row, True)
        if head is not None:
            self._live = LiveScore(head[1])
            return "ok"
        if self._live is None:
            raise InvalidRow(row)
        return answer_to(self._live, row)

    def counts(self):
        """How many calls of say were started, and finished."""
        # A call that raises is finished, too, so that both are ever the same.
        return (self._calls, self._calls)
