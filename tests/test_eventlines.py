"""[91]: logs, and events and logs as lines."""

import itertools
import unittest

from silentbeats.errors import InvalidEvent
from silentbeats.eventreadings import read_event, read_log
from silentbeats.eventtexts import event_line, log_lines
from silentbeats.live import LiveScore
from silentbeats.replaying import is_log, replayed
from tests.base import NO_SIZES, NO_VOICES, STEP, BeatTest, a_chance
from tests.plain_score import Plain, line, some_event, told_by
from tests.test_liveevents import NO_EVENTS, NO_NAMES

MOST = "9" * 60
NO_LOGS = (
    None, True, 0, 1, "", "score 6", (), [], ("score", 6), (("score",),), (("score", 6, 6),), (["score", 6],), [("score", 6)],
    (("Score", 6),), ((None, 6),), (("score", "6"),), (("leave", "a"),), (("leave", "a"), ("score", 6)),
    (("score", 6), ("score", 6)), (("score", 6), None), (("score", 6), ("leave", "a"), ["leave", "a"]), (("score", 6), "leave a"),
    (("score", (6,)),), ("score 6",), (None,), ((),), (("score", 6), ()),
)


def some_log(chance, size, many):
    """A log with so many events by form, possible or not."""
    return (("score", size),) + tuple(some_event(chance, size) for _ in range(many))


class Logs(BeatTest):
    def test_logs(self):
        chance = a_chance(910)
        for size in range(1, 37):
            self.tells(True, is_log, (("score", size),))
            self.tells(True, is_log, some_log(chance, size, 3))
        self.tells(True, is_log, some_log(chance, 2, 100))
        self.tells(True, is_log, (("score", 6), ("leave", "a"), ("enter", "a", (1,)), ("enter", "a", (5000,) * 50)))
        for thing in NO_LOGS:
            self.tells(False, is_log, thing)
        for size in NO_SIZES + (37, 100, 10 ** 59):
            self.tells(False, is_log, (("score", size),))
        for event in NO_EVENTS:
            self.tells(False, is_log, (("score", 6), event))
            self.tells(False, is_log, (("score", 6), ("leave", "a"), event, ("leave", "a")))
        self.assertIs(is_log(thing=(("score", 1),)), True)

    def test_replayed(self):
        chance = a_chance(911)
        refused = 0
        for size in (1, 2, 6, 12, 36) * 6:
            plain, first = Plain(size), None
            log = some_log(chance, size, 12)
            for event in log[1:]:
                reason = plain.reason(event)
                if reason is not None:
                    first = first or (event, reason)
                    continue
                plain.happen(event)
            right = (("score", size), *plain.events)
            for _ in range(2):
                live = replayed(right)
                self.assertIs(type(live), LiveScore)
                self.same(told_by(live), plain.told())
            if first is not None:
                refused += 1
                self.fails(InvalidEvent, {"event": first[0], "reason": first[1]}, replayed, log)
        self.assertGreater(refused, 5)

    def test_replayed_scores_are_new(self):
        live = LiveScore(6)
        live.enter("a", STEP)
        live.note("n")
        again = replayed(log=live.log())
        self.assertIs(again == live, True)
        self.same((again.notes(), again.tally()), ((), (0, 0)))
        again.leave("a")
        self.same((len(live), len(again), again.tally()), (1, 2, (1, 1)))
        self.same(again.undo(), ("leave", "a"))
        self.same(again.undo(), ("enter", "a", STEP))

    def test_forty_events_and_one_more(self):
        log = (("score", 2), ("enter", "a", (1, 1))) + (("turn", "a", 1),) * 39
        self.same(len(replayed(log)), 40)
        self.fails(InvalidEvent, {"event": ("turn", "a", 2), "reason": "full"}, replayed, log + (("turn", "a", 2),))
        self.fails(InvalidEvent, {"event": ("enter", "b", (1,)), "reason": "shape"}, replayed, log + (("enter", "b", (1,)),))

    def test_refused(self):
        for thing in NO_LOGS:
            self.refused("log", replayed, thing)
            self.refused("log", log_lines, thing)
        for thing in NO_EVENTS + (("score", 6),):
            self.refused("event", event_line, thing)


class Written(BeatTest):
    def test_written_and_read(self):
        chance = a_chance(912)
        for size in (1, 2, 6, 12, 36):
            for many in (0, 1, 5, 50):
                log = some_log(chance, size, many)
                lines = [f"score {size}"] + [line(event) for event in log[1:]]
                self.tells(lines, log_lines, log)
                self.tells(log, read_log, lines)
                for event, told in zip(log[1:], lines[1:]):
                    self.tells(told, event_line, event)
                    self.tells(event, read_event, told)

    def test_by_hand(self):
        for event, told in (
            (("enter", "b", (1, 0, -2)), "enter b 1 0 -2"), (("enter", "enter", (0,)), "enter enter 0"),
            (("leave", "abcdefgh"), "leave abcdefgh"), (("turn", "a", -3), "turn a -3"), (("turn", "turn", 0), "turn turn 0"),
            (("stretch", "a", int(MOST)), "stretch a " + MOST), (("stretch", "a", -int(MOST)), "stretch a -" + MOST),
            (("play", "a", "a"), "play a a"), (("enter", "a", (int(MOST), -1) * 20), "enter a" + (" " + MOST + " -1") * 20),
        ):
            self.tells(told, event_line, event)
            self.tells(event, read_event, told)
        self.same(event_line(event=("leave", "a")), "leave a")
        self.same(log_lines(log=(("score", 1),)), ["score 1"])
        self.same(read_event(text="leave a"), ("leave", "a"))
        self.same(read_log(lines=["score 36"]), (("score", 36),))

    def test_lines_are_new(self):
        log = (("score", 6), ("leave", "a"))
        log_lines(log).append("more")
        self.same(log_lines(log), ["score 6", "leave a"])


class Read(BeatTest):
    def test_first_words(self):
        for text in ("", " ", "a", "score 6", "score", "Leave a", "leav a", "leaves a", " leave a", "leave\n", "\nleave a", "1",
                     "undo", "turn\na 1", "enter\n"):
            self.unread(0, read_event, text)

    def test_names(self):
        for name in [name for name in NO_NAMES if isinstance(name, str) and " " not in name]:
            for text in (f"enter {name} 1", f"leave {name}", f"turn {name} 1", f"stretch {name} 1", f"play {name} a",
                         f"turn {name}", f"enter {name}", f"leave {name} a b", f"turn {name} x y"):
                self.unread(1, read_event, text)
            self.unread(2, read_event, f"play a {name}")

    def test_missing_words(self):
        for word in ("enter", "leave", "turn", "stretch", "play"):
            self.unread(1, read_event, word)
            self.unread(1, read_event, word + " ")
        for word in ("enter", "turn", "stretch", "play"):
            self.unread(2, read_event, f"{word} a")
            self.unread(2, read_event, f"{word} a ")

    def test_words_too_many(self):
        self.unread(2, read_event, "leave a b")
        self.unread(2, read_event, "leave a ")
        self.unread(2, read_event, "leave a  b")
        for text in ("turn a 1 2", "turn a 1 ", "stretch a 1 1", "play a b c", "play a b ", "turn a 1 x y"):
            self.unread(3, read_event, text)

    def test_integers(self):
        for text in ("", "-", "+1", "-0", "00", "01", "-01", "--1", "1-", "1.0", "1/2", "1e3", "0x1", "1_0", "one", "1\n", "\n",
                     MOST + "0", "-" + MOST + "0", "0" + MOST[1:], "(1)", "1,"):
            for word in ("turn", "stretch", "enter"):
                self.unread(2, read_event, f"{word} a {text}")
                if word == "enter":
                    self.unread(3, read_event, f"{word} a 1 {text}")
                    self.unread(4, read_event, f"{word} a 0 -1 {text} 5")
        for number in (0, 1, -1, 10, 10 ** 59, -(10 ** 59), int(MOST)):
            self.tells(("turn", "a", number), read_event, f"turn a {number}")
            self.tells(("enter", "a", (7, number)), read_event, f"enter a 7 {number}")

    def test_small_lines(self):
        """All lines of a few words are just those that are written of an event, or none."""
        words = ("enter", "leave", "turn", "play", "a", "1", "-2", "")
        events = [("leave", "a"), ("leave", "leave")]
        names = [word for word in words if word.isalpha()]
        for name in names:
            events += [("leave", name)] + [("play", name, other) for other in names]
            for k in (1, -2):
                events += [("turn", name, k), ("enter", name, (k,)), ("enter", name, (k, 1)), ("enter", name, (k, -2))]
        known = {line(event): event for event in events}
        for many in range(1, 5):
            for some in itertools.product(words, repeat=many):
                text = " ".join(some)
                if text in known:
                    self.same(read_event(text), known[text])
                else:
                    with self.assertRaises(ValueError) as caught:
                        read_event(text)
                    self.assertEqual(caught.exception.line, 0)
                    self.assertLessEqual(caught.exception.field, many)

    def test_other_values(self):
        for thing in NO_VOICES + (b"leave a", ["leave a"], ("leave", "a")):
            if not isinstance(thing, str):
                self.refused("text", read_event, thing)
        for thing in (None, True, 0, "", "score 6", (), ("score 6",), ["score 6", None], [1], ["score 6\n"], ["score 6", "\n"],
                      ["score 6", "leave a\nleave b"], [["score 6"]], ["\n", 1], ["", ()]):
            self.refused("lines", read_log, thing)


class ReadLogs(BeatTest):
    def stops(self, line_at, field, lines):
        with self.assertRaises(ValueError) as caught:
            read_log(lines)
        self.assertEqual(type(caught.exception).__name__, "InvalidText")
        self.same(vars(caught.exception), {"line": line_at, "field": field})

    def test_first_lines(self):
        self.stops(0, 0, [])
        for text, field in (("", 0), ("leave a", 0), ("Score 6", 0), (" score 6", 0), ("score", 1), ("score ", 1), ("score a", 1),
                            ("score 0", 1), ("score 37", 1), ("score -1", 1), ("score 06", 1), ("score 6.0", 1), ("score +6", 1),
                            ("score " + MOST, 1), ("score 6 6", 2), ("score 6 ", 2), ("score 0 6", 1), ("score 36 a", 2)):
            self.stops(0, field, [text])
            self.stops(0, field, [text, "leave a"])
            self.stops(0, field, [text, "none"])
        for size in range(1, 37):
            self.tells((("score", size),), read_log, [f"score {size}"])

    def test_later_lines(self):
        for text, field in (("", 0), ("score 6", 0), ("score 0", 0), ("none", 0), ("leave", 1), ("leave A", 1), ("leave a b", 2),
                            ("turn a x", 2), ("enter a 1 2 03 4", 4), ("enter a", 2)):
            for k in range(1, 4):
                lines = ["score 6"] + ["leave a"] * (k - 1) + [text]
                self.stops(k, field, lines)
                self.stops(k, field, lines + ["leave a", "none"])

    def test_possible_or_not(self):
        lines = ["score 2", "leave a", "enter a 5000", "play a a", "stretch b 2"]
        log = (("score", 2), ("leave", "a"), ("enter", "a", (5000,)), ("play", "a", "a"), ("stretch", "b", 2))
        self.tells(log, read_log, lines)
        self.tells(lines, log_lines, log)


if __name__ == "__main__":
    unittest.main()
