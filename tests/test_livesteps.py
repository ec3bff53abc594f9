"""[89]: live scores: what is tried, taken back, let happen at once, counted and noted."""

import unittest

from silentbeats.errors import InvalidEvent, NothingToUndo
from silentbeats.live import LiveScore
from tests import reckon
from tests.base import STEP, THIRDS, BeatTest, a_chance
from tests.plain_score import Plain, some_event, told_by
from tests.test_liveevents import NO_EVENTS, NO_NAMES

SOME = (("enter", "a", STEP), ("turn", "a", 2), ("enter", "b", THIRDS), ("play", "a", "b"), ("stretch", "b", 5), ("leave", "a"))


def some_possible(chance, plain, many):
    """So many events, drawn by chance, that are possible one behind the other."""
    ahead, events = plain.behind(plain.events), []
    while len(events) < many:
        event = some_event(chance, plain.size)
        if ahead.reason(event) is None:
            ahead.happen(event)
            events.append(event)
    return events


def a_full_score():
    live = LiveScore(2)
    live.enter("a", (1, 1))
    live.do_all(*[("turn", "a", 1)] * 39)
    return live


class StepTest(BeatTest):
    def raises(self, event, reason, call, *args, **named):
        with self.assertRaises(InvalidEvent) as caught:
            call(*args, **named)
        self.same(vars(caught.exception), {"event": event, "reason": reason})

    def keeps(self, live, told, calls):
        """Whether all is as told but for the counts."""
        self.same(told_by(live), told[:10] + ((calls, calls),) + told[11:])


class Undo(StepTest):
    def test_behind_each_event(self):
        live, plain = LiveScore(6), Plain(6)
        told = [plain.told()]
        for event in SOME:
            live.go(event)
            plain.happen(event)
            told.append(plain.told())
        for k in reversed(range(len(SOME))):
            undone = live.undo()
            self.same(undone, SOME[k])
            self.keeps(live, told[k], 2 * len(SOME) - k)
        self.fails(NothingToUndo, {"steps": 0}, live.undo)
        self.same(live.tally(), (14, 14))

    def test_behind_nothing(self):
        live = LiveScore(1)
        for many in range(1, 4):
            with self.assertRaises(NothingToUndo) as caught:
                live.undo()
            self.same(vars(caught.exception), {"steps": 0})
            self.keeps(live, Plain(1).told(), many)

    def test_by_chance(self):
        chance = a_chance(890)
        for size in (1, 4, 6, 12):
            live, plain = LiveScore(size), Plain(size)
            for _ in range(40):
                if plain.events and chance.random() < 0.4:
                    self.same(live.undo(), plain.undo())
                else:
                    event = some_possible(chance, plain, 1)[0]
                    plain.happen(event)
                    live.go(event)
                plain.calls += 1
                self.same(told_by(live), plain.told())
                if chance.random() < 0.4:
                    name = chance.choice("uvwxyz")
                    if name in plain.notes:
                        self.refused("name", live.note, name)
                    else:
                        plain.notes[name] = len(plain.events)
                        self.same(live.note(name), len(plain.events))
                for name, many in plain.notes.items():
                    self.tells(tuple(plain.events[many:]), live.since, name)


class Tried(StepTest):
    def test_tried_events_change_nothing(self):
        chance = a_chance(891)
        for size in (1, 6, 8, 12):
            live, plain = LiveScore(size), Plain(size)
            for event in some_possible(chance, plain, 5):
                live.go(event)
                plain.happen(event)
                plain.calls += 1
                for many in range(4):
                    events = some_possible(chance, plain, many)
                    behind = plain.behind(plain.events + events)
                    expected = (tuple(sorted(behind.voices.items())), behind.lacking())
                    self.tells(expected, live.tried, *events)
                    self.same(told_by(live), plain.told())
        self.same(LiveScore(6).tried(), ((), (2, 3, 6)))

    def test_the_first_refused_is_raised(self):
        live = LiveScore(6)
        live.enter("a", STEP)
        told = told_by(live)
        self.raises(("leave", "b"), "name", live.tried, ("turn", "a", 1), ("leave", "b"), ("leave", "c"))
        self.raises(("leave", "a"), "name", live.tried, ("leave", "a"), ("leave", "a"))
        self.raises(None, "shape", live.tried, ("leave", "a"), None)
        self.raises(("play", "a", "b"), "other", live.tried, ("play", "a", "b"), None)
        for thing in NO_EVENTS:
            self.raises(thing, "shape", live.tried, thing)
        self.same(told_by(live), told)

    def test_full(self):
        live = LiveScore(2)
        turns = [("enter", "a", (1, 1))] + [("turn", "a", 1)] * 40
        self.same(live.tried(*turns[:40]), ((("a", (1, 1)),), ()))
        self.raises(("turn", "a", 1), "full", live.tried, *turns)
        self.same(len(live), 0)
        live = a_full_score()
        self.same(live.tried(), ((("a", (1, 1)),), ()))
        self.raises(("leave", "b"), "full", live.tried, ("leave", "b"))

    def test_barred(self):
        live = LiveScore(6)
        live.enter("a", STEP)
        before = told_by(live)
        for event, reason in ((("enter", "a", STEP), "name"), (("play", "a", "b"), "other"), (("stretch", "a", 3), "apart"),
                              (("enter", "b", (1001,) + (0,) * 5), "loud"), (("enter", "b", (1,)), "shape"), (None, "shape"),
                              (("leave", "a"), None), (("enter", "b", STEP), None), (("play", "a", "a"), None)):
            self.tells(reason, live.barred, event)
        self.tells("full", a_full_score().barred, ("leave", "a"))
        self.tells("shape", a_full_score().barred, "leave a")
        self.same(told_by(live), before)


class DoAll(StepTest):
    def test_all_of_them(self):
        for keep in (True, False):
            live, plain = LiveScore(6), Plain(6)
            self.same(live.do_all(*SOME[:2], keep=keep), 2)
            self.same(live.do_all(keep=keep), 0)
            self.same(live.do_all(*SOME[2:], keep=keep), 4)
            for event in SOME:
                plain.happen(event)
            self.keeps(live, plain.told(), 3)
        live = LiveScore(6)
        self.same(live.do_all(*SOME), 6)
        self.same(live.do_all(), 0)
        self.keeps(live, plain.told(), 2)

    def test_refused_in_the_middle(self):
        wrong = ("leave", "nobody")
        for k in range(len(SOME) + 1):
            events = SOME[:k] + (wrong,) + SOME[k:]
            for keep in (True, False):
                live, plain = LiveScore(6), Plain(6)
                live.enter("x", STEP)
                live.note("n")
                plain.happen(("enter", "x", STEP))
                plain.notes["n"] = 1
                self.raises(wrong, "name", live.do_all, *events, keep=keep)
                for event in SOME[:k] if keep else ():
                    plain.happen(event)
                self.keeps(live, plain.told(), 2)
                self.same(live.since("n"), SOME[:k] if keep else ())
        live = LiveScore(6)
        self.raises(wrong, "name", live.do_all, *SOME, wrong)
        self.keeps(live, Plain(6).told(), 1)

    def test_full_in_the_middle(self):
        turns = [("enter", "a", (1, 1))] + [("turn", "a", 1)] * 40
        live = LiveScore(2)
        self.raises(("turn", "a", 1), "full", live.do_all, *turns)
        self.same((len(live), live.tally()), (0, (1, 1)))
        self.raises(("turn", "a", 1), "full", live.do_all, *turns, keep=True)
        self.same((len(live), live.tally()), (40, (2, 2)))
        self.raises(("turn", "a", 1), "full", live.do_all, *turns[1:], keep=True)
        self.same((len(live), live.tally()), (40, (3, 3)))

    def test_keep_goes_ahead_of_the_events(self):
        live = LiveScore(2)
        for many, keep in enumerate((None, 0, 1, "", "True", (), [], ("leave", "a")), 1):
            with self.assertRaises(ValueError) as caught:
                live.do_all(None, ("leave", "a"), keep=keep)
            self.same((type(caught.exception).__name__, vars(caught.exception)), ("NotUsable", {"word": "keep", "at": -1}))
            self.same((len(live), live.tally()), (0, (many, many)))


class Counted(StepTest):
    def test_what_counts(self):
        live = LiveScore(6)
        calls = (
            lambda: live.enter("a", STEP), lambda: live.turn("a", 1), lambda: live.stretch("a", 5), lambda: live.play("a", "a"),
            lambda: live.leave("a"), live.undo, lambda: live.go(("leave", "a")), lambda: live.do_all(*SOME),
            lambda: live.do_all(*SOME, keep=True), live.do_all, lambda: live.do_all(keep=None), lambda: live.go(None),
            lambda: live.enter("a", None), lambda: live.leave(1), lambda: live.turn("x", 0), lambda: live.stretch("x", 1),
            lambda: live.play("x", "y"), lambda: live.do_all(None),
        )
        for many, call in enumerate(calls, 1):
            try:
                call()
            except ValueError:
                pass
            self.same(live.tally(), (many, many))

    def test_what_does_not_count(self):
        live = LiveScore(6)
        live.do_all(*SOME)
        calls = (
            lambda: live.barred(None), lambda: live.tried(*SOME), lambda: live.tried(None), lambda: live.note("n"),
            lambda: live.note("n"), lambda: live.since("n"), lambda: live.since("m"), live.notes, live.log, live.tally,
            live.is_even, live.table, lambda: live.through("b", "b"), lambda: live.back_through("b", "b"),
            lambda: live.makers("b"), lambda: live.fillers("x"), lambda: live["b"], lambda: live["x"], lambda: None in live,
            lambda: len(live), lambda: list(live), lambda: str(live), lambda: live == live, lambda: live.sum_now,
        )
        for call in calls:
            try:
                call()
            except ValueError:
                pass
            self.same(live.tally(), (1, 1))


class Noted(StepTest):
    def test_notes(self):
        live = LiveScore(6)
        self.same(live.notes(), ())
        self.same(live.note("z"), 0)
        self.same(live.note("a"), 0)
        live.do_all(*SOME[:3])
        self.same(live.note(name="m"), 3)
        self.same(live.notes(), ("a", "m", "z"))
        self.same((live.since("a"), live.since("m"), live.since(name="z")), (SOME[:3], (), SOME[:3]))
        live.go(SOME[3])
        self.same((live.since("a"), live.since("m")), (SOME[:4], SOME[3:4]))
        self.same(live.log(), (("score", 6),) + SOME[:4])

    def test_notes_go_with_events_taken_back(self):
        live = LiveScore(6)
        live.note("nought")
        live.go(SOME[0])
        live.note("one")
        live.go(SOME[1])
        live.note("two")
        live.undo()
        self.same(live.notes(), ("nought", "one"))
        live.go(SOME[1])
        # For good: the same event again brings no note back.
        self.same(live.notes(), ("nought", "one"))
        self.refused("name", live.since, "two")
        self.same(live.note("two"), 2)
        live.undo()
        live.undo()
        self.same(live.notes(), ("nought",))
        self.fails(NothingToUndo, {"steps": 0}, live.undo)
        self.same(live.notes(), ("nought",))
        self.same(live.since("nought"), ())

    def test_names_refused(self):
        live = LiveScore(6)
        live.note("n")
        for thing in NO_NAMES:
            self.refused("name", live.note, thing)
            self.refused("name", live.since, thing)
        self.refused("name", live.note, "n")
        self.refused("name", live.since, "m")
        # Names of voices and of moments are apart.
        live.enter("v", STEP)
        self.same(live.note("v"), 1)
        self.same(live.notes(), ("n", "v"))
        self.refused("name", live.since, "a")

    def test_logs_are_new(self):
        live = LiveScore(6)
        live.do_all(*SOME)
        log = live.log()
        live.undo()
        self.same(log, (("score", 6),) + SOME)
        self.same(live.log(), log[:-1])

    def test_sums_behind_taken_back_events(self):
        live = LiveScore(6)
        live.enter("a", STEP)
        live.play("a", "a")
        live.undo()
        self.same((live.sum_now, live.product_now, live.silences_now), (STEP, STEP, reckon.silences(STEP)))


if __name__ == "__main__":
    unittest.main()
