"""Events and logs written as lines."""

from silentbeats.checks import need
from silentbeats.eventwords import line_of, lines_of, spaced
from silentbeats.liveevents import is_event
from silentbeats.replaying import is_log


def event_line(event):
    """The elements of the event in order, with single spaces between, a voice as its weights."""
    need(is_event(event), "event")
    return line_of(event)


def log_lines(log):
    """The line of the score with its size, and a line for each event."""
    need(is_log(log), "log")
    return [spaced(log[0])] + lines_of(log[1:])
