"""Logs of live scores, and scores that are made of them again."""

from silentbeats.checks import need
from silentbeats.live import LiveScore
from silentbeats.liveevents import is_event, is_score_size


def is_head(thing):
    """Whether it is the word score and a size as a live score takes it."""
    return isinstance(thing, tuple) and len(thing) == 2 and thing[0] == "score" and is_score_size(thing[1])


def is_log(thing):
    """Whether it is the head of a log, followed by events by form, possible or not."""
    if not isinstance(thing, tuple) or thing == () or not is_head(thing[0]):
        return False
    return all([is_event(event) for event in thing[1:]])


def replayed(log):
    """A new live score behind the events of the log; InvalidEvent for the first that is refused."""
    need(is_log(log), "log")
    live = LiveScore(log[0][1])
    events = log[1:]
    live.happen(*events)
    return live
