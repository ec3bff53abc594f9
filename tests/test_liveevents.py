"""[83] and [84]: names, and events by form."""

import unittest

from silentbeats.liveevents import is_event
from silentbeats.voiceclasses import Voice
from tests.base import NO_INTEGERS, NO_VOICES, BeatTest, a_chance
from tests.plain_score import some_event

NO_NAMES = (
    True, None, 0, 1, "", "A", "a1", "a b", " a", "a ", "aB", "abcdefghi", "a_b", "a-b", "1", "a\n", "\n", "-", "ab.", (), ("a",),
    [], ["a"], ("a", "b"), "\u00e9",
)
NO_EVENTS = (
    None, True, False, 0, 1, "", "enter", "leave a", (), [], ("enter",), ("leave",), ("enter", "a"), ("turn", "a"), ("play", "a"),
    ("stretch", "a"), ("leave", "a", "b"), ("leave", "a", 1), ("leave", "a", ()), ("enter", "a", (1,), 1), ("turn", "a", 1, 2),
    ("play", "a", "b", "c"), ("Enter", "a", (1,)), ("score", 6), ("undo",), ("undo", "a"), (None, "a"), (True, "a", 1),
    (("enter",), "a", (1,)), ["leave", "a"], ["enter", "a", (1,)], ("enter", "a", [1]), ("enter", "a", "b"), ("turn", "a", "b"),
    ("turn", "a", (1,)), ("stretch", "a", None), ("play", "a", 1), ("play", "a", ()), ("a", "enter", (1,)), ("", "a"), (0, "a", 1),
    (("leave", "a"),), ("enter", "a", Voice(1)),
)


class Events(BeatTest):
    def test_events(self):
        for name in ("a", "z", "abcdefgh", "aaaaaaaa", "enter", "leave", "score"):
            for voice in ((0,), (1, -1), (0,) * 36, (10 ** 59,), (-5,) * 50):
                self.tells(True, is_event, ("enter", name, voice))
            for k in (0, 1, -1, 10 ** 59, -(10 ** 59)):
                self.tells(True, is_event, ("turn", name, k))
                self.tells(True, is_event, ("stretch", name, k))
            self.tells(True, is_event, ("leave", name))
            self.tells(True, is_event, ("play", name, name))
            self.tells(True, is_event, ("play", name, "b"))
        chance = a_chance(840)
        for _ in range(100):
            self.tells(True, is_event, some_event(chance, 6))

    def test_names(self):
        for name in NO_NAMES:
            for event in (("enter", name, (1,)), ("leave", name), ("turn", name, 1), ("stretch", name, 1),
                          ("play", name, "a"), ("play", "a", name)):
                self.tells(False, is_event, event)

    def test_other_values(self):
        for thing in NO_EVENTS:
            self.tells(False, is_event, thing)
        for thing in NO_VOICES:
            self.tells(False, is_event, ("enter", "a", thing))
        for thing in NO_INTEGERS:
            self.tells(False, is_event, ("turn", "a", thing))
            self.tells(False, is_event, ("stretch", "a", thing))
        self.assertIs(is_event(thing=("leave", "a")), True)


if __name__ == "__main__":
    unittest.main()
