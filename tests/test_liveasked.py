"""[88] and [90]: what is asked of a live score by names, its items, and its events as a whole."""

import itertools
import unittest

from silentbeats.errors import Unmade
from silentbeats.live import LiveScore
from silentbeats.voiceclasses import Voice
from tests import reckon
from tests.base import PAIR, STEP, THIRDS, BeatTest, a_chance, shown, some_entries, some_room, some_voice
from tests.plain_score import NAMES, Plain, some_event, told_by
from tests.test_live import SIZES
from tests.test_liveevents import NO_EVENTS, NO_NAMES


def some_score(chance, size, names=NAMES):
    """A live score in which each of these names has a voice that is silent at some divisors."""
    live = LiveScore(size)
    for name in names:
        voice = some_room(chance, size) if chance.random() < 0.7 else some_voice(chance, size)
        voice = voice if max(abs(weight) for weight in voice) <= 1000 else (1,) * size
        live.enter(name, voice)
    return live


class Asked(BeatTest):
    def test_through(self):
        chance = a_chance(880)
        for size in SIZES:
            live = some_score(chance, size)
            voices = dict(live.voices_now)
            for room, name in itertools.product(NAMES, NAMES):
                self.tells(reckon.around(voices[room], voices[name]), live.through, room, name)
        self.same(live.through(name="b", room="a"), live.through("a", "b"))

    def test_back_through(self):
        chance = a_chance(881)
        found = 0
        for size in (1, 2, 3, 4, 6, 9, 12, 16) * 2:
            live = some_score(chance, size)
            voices = dict(live.voices_now)
            for room, name in itertools.product(NAMES, NAMES):
                silences = reckon.silences(voices[room])
                if silences:
                    self.fails(Unmade, {"divisor": silences[0]}, live.back_through, room, name)
                    continue
                entries = live.back_through(room, name)
                self.tells(entries, live.back_through, room, name)
                numbers = reckon.fractions(entries)
                self.same(entries, reckon.pairs(numbers))
                self.assertEqual(reckon.around(voices[room], numbers), voices[name])
                found += 1
        self.assertGreater(found, 50)
        live = LiveScore(2)
        live.enter("a", (2, 1))
        live.enter("b", (0, 0))
        self.same(live.back_through(name="b", room="a"), ((0, 1), (0, 1)))
        self.fails(Unmade, {"divisor": 1}, live.back_through, "b", "b")

    def test_makers_and_fillers(self):
        chance = a_chance(882)
        many = 0
        for size in SIZES * 3:
            live = some_score(chance, size)
            voices = dict(live.voices_now)
            for name in NAMES:
                silences = {each: set(reckon.silences(voices[each])) for each in NAMES}
                makers = tuple(sorted(each for each in NAMES if each != name and silences[each] <= silences[name]))
                fillers = tuple(sorted(
                    each for each in NAMES if len(set(reckon.around(voices[each], voices[name]))) == 1
                ))
                self.tells(makers, live.makers, name)
                self.tells(fillers, live.fillers, name)
                many += len(makers) + len(fillers)
        self.assertGreater(many, 100)

    def test_makers_and_fillers_by_hand(self):
        live = LiveScore(6)
        for name, voice in (("a", STEP), ("b", THIRDS), ("all", (1,) * 6), ("no", (0,) * 6), ("one", (1, 0, 0, 0, 0, 0))):
            live.enter(name, voice)
        self.same(live.makers("all"), ("a", "b", "one"))
        self.same(live.makers("no"), ("a", "all", "b", "one"))
        self.same(live.makers("one"), ())
        self.same(live.makers("a"), ("one",))
        self.same(live.fillers("a"), ("all", "b", "no"))
        self.same(live.fillers("all"), ("a", "all", "b", "no", "one"))
        self.same(live.fillers("one"), ("all", "no"))
        self.same(live.makers(name="b"), ("one",))
        self.same(live.fillers(name="b"), ("a", "all", "no"))
        self.same(live.table(), [
            "a 1 1 0 0 0 0 : 2", "all 1 1 1 1 1 1 : 2 3 6", "b 1 0 1 0 1 0 : 3 6", "no 0 0 0 0 0 0 : 1 2 3 6",
            "one 1 0 0 0 0 0 : -",
        ])
        self.same(LiveScore(6).table(), [])

    def test_turned_voices_keep_their_makers(self):
        chance = a_chance(883)
        for size in (6, 8, 12):
            live = some_score(chance, size)
            makers = {name: live.makers(name) for name in NAMES}
            rows = [row.split(" : ")[1] for row in live.table()]
            for name in NAMES:
                live.turn(name, chance.randint(-9, 9))
                live.stretch(name, chance.choice((-1, 1, size + 1, 2 * size - 1)))
            self.same({name: live.makers(name) for name in NAMES}, makers)
            self.same([row.split(" : ")[1] for row in live.table()], rows)

    def test_refused(self):
        live = LiveScore(6)
        live.enter("a", STEP)
        live.enter("gone", PAIR)
        live.leave("gone")
        for thing in NO_NAMES + ("b", "gone", "aa", STEP, Voice(*STEP)):
            for call in (live.makers, live.fillers, live.__getitem__, lambda name: live[name]):
                self.refused("name", call, thing)
            for call in (live.through, live.back_through):
                self.refused("room", call, thing, None)
                self.refused("room", call, thing, "a")
                self.refused("name", call, "a", thing)

    def test_results_are_new_and_nothing_changes(self):
        live = some_score(a_chance(884), 6)
        before = shown(live)
        table = live.table()
        table.append("more")
        table[0] = ""
        self.assertEqual(len(live.table()), len(NAMES))
        list(live).append(1)
        for name in NAMES:
            live.makers(name), live.fillers(name), live.through(name, name), live[name]
        str(live), live.is_even(), live.log(), live.tally(), live.notes(), len(live), live == live, ("leave", "a") in live
        live.barred(None), live.tried(("leave", "a"))
        self.assertEqual(shown(live), before)


class Items(BeatTest):
    def test_items(self):
        chance = a_chance(900)
        for size in SIZES:
            live = some_score(chance, size)
            for name, voice in live.voices_now:
                self.same(live[name], (voice, sum(voice), reckon.silences(voice)))
        live = LiveScore(1)
        live.enter("a", (0,))
        self.same(live["a"], ((0,), 0, (1,)))

    def test_events_as_a_whole(self):
        chance = a_chance(901)
        for size in SIZES:
            live, plain = LiveScore(size), Plain(size)
            for _ in range(20):
                event = some_event(chance, size)
                self.assertIs(event in live, event in plain.events)
                if plain.reason(event) is None:
                    plain.happen(event)
                    live.go(event)
                    self.assertIs(event in live, True)
            self.same(list(live), plain.events)
            self.same([(a, b) for a in live for b in live], list(itertools.product(plain.events, plain.events)))
            self.same(len(live), len(plain.events))
            self.same(str(live), plain.told()[-1])

    def test_contains_no_other_values(self):
        live = LiveScore(2)
        live.do_all(("enter", "a", (1, 0)), ("turn", "a", 1), ("stretch", "a", 1), ("play", "a", "a"))
        for event in list(live):
            self.assertIs(event in live, True)
            self.assertIs(list(event) in live, False)
        for thing in NO_EVENTS + (
            ("enter", "a", (True, False)), ("enter", "a", (1, False)), ("turn", "a", True), ("stretch", "a", True),
            ("enter", "a", [1, 0]), ("turn", "a", 2), ("turn", "b", 1), ("leave", "a"), ("score", 2), "a", (1, 0), live,
        ):
            self.assertIs(thing in live, False)
        live.undo()
        self.assertIs(("play", "a", "a") in live, False)

    def test_lines(self):
        live = LiveScore(2)
        self.same(str(live), "-")
        live.enter("a", (1, -1))
        self.same(str(live), "enter a 1 -1")
        live.turn("a", -5)
        live.play("a", "a")
        live.leave("a")
        self.same(str(live), "enter a 1 -1 / turn a -5 / play a a / leave a")

    def test_equality(self):
        one, other = LiveScore(2), LiveScore(2)
        self.assertIs(one == other, True)
        self.assertIs(one == LiveScore(3), False)
        one.enter("a", (1, 1))
        self.assertIs(one == other, False)
        other.enter("a", (1, 1))
        self.assertIs(one == other, True)
        self.assertIs(one != other, False)
        # Counts and notes stand in no log, and the same voices may come of unlike events.
        one.note("n")
        one.turn("a", 1)
        one.undo()
        self.assertIs(one == other, True)
        other.turn("a", 1)
        self.same(one.voices_now, other.voices_now)
        self.assertIs(one == other, False)
        one.turn("a", 3)
        self.assertIs(one == other, False)
        self.assertIs(Derived(2) == LiveScore(2), True)
        for thing in (None, True, 2, "", one.log(), list(one), Plain(2)):
            self.assertIs(one == thing, False)
            self.assertIs(one != thing, True)

    def test_the_same_twice(self):
        live = some_score(a_chance(902), 12)
        self.same(told_by(live), told_by(live))


class Derived(LiveScore):
    """A derived class."""


if __name__ == "__main__":
    unittest.main()
