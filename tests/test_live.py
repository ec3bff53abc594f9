"""[85] to [87]: live scores, their events, and the reasons for which these are refused."""

import unittest

from silentbeats.errors import InvalidEvent
from silentbeats.live import LiveScore
from tests import reckon
from tests.base import NO_SIZES, NO_VOICES, STEP, THIRDS, BeatTest, a_chance
from tests.plain_score import NAMES, Plain, some_event, told_by
from tests.test_liveevents import NO_EVENTS, NO_NAMES

SIZES = (1, 2, 3, 4, 6, 8, 12, 16, 30, 36)


class LiveTest(BeatTest):
    def barred(self, live, event, reason, *call):
        """Whether the event is refused for the reason, changing nothing but the counts; with its very fields."""
        told = told_by(live)
        call, *args = call or (live.go, event)
        with self.assertRaises(InvalidEvent) as caught:
            call(*args)
        self.same(vars(caught.exception), {"event": event, "reason": reason})
        self.same(told_by(live)[:10] + told_by(live)[11:], told[:10] + told[11:])
        return caught.exception

    def call_of(self, live, event):
        """The method of the event's own name, with the arguments."""
        return (getattr(live, event[0]), *event[1:])


class Happening(LiveTest):
    def test_scores_by_chance(self):
        chance = a_chance(850)
        reasons = {}
        for size in SIZES * 2:
            live, plain = LiveScore(size), Plain(size)
            self.same(told_by(live), plain.told())
            for _ in range(30):
                self.one_more(live, plain, some_event(chance, size), reasons, chance)
            self.same(told_by(live), plain.told())
        for reason in ("shape", "name", "other", "apart", "loud", None):
            self.assertGreater(reasons[reason], 3, reason)

    def one_more(self, live, plain, event, reasons, chance):
        """Lets an event happen to both, by go or by its own method."""
        reason = plain.reason(event)
        reasons[reason] = reasons.get(reason, 0) + 1
        plain.calls += 1
        call = self.call_of(live, event) if chance.random() < 0.5 else (live.go, event)
        self.same(live.barred(event), reason)
        if reason is not None:
            self.barred(live, event, reason, *call)
        else:
            plain.happen(event)
            self.same(call[0](*call[1:]), plain.lacking())
        self.same(live.tally(), (plain.calls, plain.calls))
        self.same(live.voices_now, tuple(sorted(plain.voices.items())))

    def test_a_new_score(self):
        for size in range(1, 37):
            live = LiveScore(size=size)
            self.same(told_by(live), Plain(size).told())
            self.same(live.sum_now, (0,) * size)
            self.same(live.product_now, (1,) + (0,) * (size - 1))
            self.same(live.silences_now, tuple(reckon.divisors(size)))
            self.same(live.lacking_now, tuple(reckon.divisors(size)[1:]))

    def test_sizes_refused(self):
        for size in NO_SIZES + (37, 38, 10 ** 59):
            self.refused("size", LiveScore, size)

    def test_most(self):
        self.same(LiveScore.MOST, 40)
        self.same(LiveScore(6).MOST, 40)

    def test_each_event(self):
        live = LiveScore(6)
        self.same(live.enter("a", (1, 2, 0, 0, 0, 0)), (2, 3, 6))
        self.same(live.turn("a", -1), (2, 3, 6))
        self.same(live.voices_now, (("a", (2, 0, 0, 0, 0, 1)),))
        self.same(live.turn("a", 10 ** 59), (2, 3, 6))
        self.same(live.voices_now, (("a", reckon.later((2, 0, 0, 0, 0, 1), 10 ** 59)),))
        self.same(live.turn("a", -(10 ** 59)), (2, 3, 6))
        self.same(live.stretch("a", 5), (2, 3, 6))
        self.same(live.voices_now, (("a", (2, 1, 0, 0, 0, 0)),))
        self.same(live.stretch("a", -7), (2, 3, 6))
        self.same(live.voices_now, (("a", (2, 0, 0, 0, 0, 1)),))
        self.same(live.enter("b", STEP), (3, 6))
        self.same(live.play("a", "b"), (3, 6))
        self.same(live.voices_now, (("a", (3, 2, 0, 0, 0, 1)), ("b", STEP)))
        self.same(live.play("b", "b"), (3, 6))
        self.same(live.voices_now[1], ("b", (1, 2, 1, 0, 0, 0)))
        self.same(live.enter("c", THIRDS), ())
        self.same(live.leave("b"), ())
        self.same(live.leave("a"), (2,))
        self.same(live.leave("c"), (2, 3, 6))
        self.same(live.voices_now, ())
        self.same(live.enter("c", (0,) * 6), ())
        self.same((live.silences_now, live.product_now, live.is_even()), ((1, 2, 3, 6), (0,) * 6, True))

    def test_named(self):
        live = LiveScore(2)
        self.same(live.enter(voice=(1, 0), name="a"), (2,))
        self.same(live.turn(k=1, name="a"), (2,))
        self.same(live.stretch(k=1, name="a"), (2,))
        self.same(live.play(other="a", name="a"), (2,))
        self.same(live.leave(name="a"), (2,))
        self.same(live.go(event=("enter", "b", (1, 1))), ())
        self.same(live.barred(event=("enter", "b", (1, 1))), "name")

    def test_sums_and_products_beyond_the_limits(self):
        live = LiveScore(36)
        for k in range(36):
            live.enter("abcdefghijklmnopqrstuvwxyzabcdefghijkl"[k] + "xyz"[k // 26], (1000,) * 36)
        self.same(live.sum_now, (36000,) * 36)
        self.same(live.product_now, (1000 * 36000 ** 35,) * 36)
        self.same((live.silences_now, live.lacking_now), (tuple(reckon.divisors(36)[1:]), ()))
        self.assertIs(live.is_even(), True)

    def test_two_scores_share_nothing(self):
        one, other = LiveScore(6), LiveScore(6)
        one.enter("a", STEP)
        one.note("x")
        self.same(told_by(other), Plain(6).told())
        other.enter("b", THIRDS)
        self.same(one.voices_now, (("a", STEP),))
        self.same(one.notes(), ("x",))


class Reasons(LiveTest):
    def score(self, size=6):
        live = LiveScore(size)
        live.enter("a", (1,) * size)
        live.enter("loud", (1000,) + (0,) * (size - 1))
        return live

    def test_shape(self):
        live = self.score()
        for event in NO_EVENTS + tuple(("enter", "c", (1,) * many) for many in (1, 5, 7, 36)):
            self.same(live.barred(event), "shape")
            self.assertIs(self.barred(live, event, "shape").event, event)
        for name in NO_NAMES:
            self.barred(live, ("enter", name, STEP), "shape", live.enter, name, STEP)
            self.barred(live, ("leave", name), "shape", live.leave, name)
            self.barred(live, ("turn", name, 1), "shape", live.turn, name, 1)
            self.barred(live, ("stretch", name, 1), "shape", live.stretch, name, 1)
            self.barred(live, ("play", name, "a"), "shape", live.play, name, "a")
            self.barred(live, ("play", "a", name), "shape", live.play, "a", name)
        for thing in NO_VOICES:
            self.barred(live, ("enter", "c", thing), "shape", live.enter, "c", thing)
        for k in (True, None, "1", (1,), [1]):
            self.barred(live, ("turn", "a", k), "shape", live.turn, "a", k)
            self.barred(live, ("stretch", "a", k), "shape", live.stretch, "a", k)

    def test_full(self):
        live = LiveScore(2)
        live.enter("a", (1, 1))
        for _ in range(39):
            self.same(live.barred(("turn", "a", 1)), None)
            live.turn("a", 1)
        self.same((len(live), live.tally()), (40, (40, 40)))
        for event in (("turn", "a", 1), ("leave", "a"), ("enter", "b", (0, 0)), ("enter", "a", (0, 0)), ("leave", "b"),
                      ("play", "a", "b"), ("stretch", "a", 2), ("enter", "b", (5000, 0))):
            self.barred(live, event, "full")
            self.barred(live, event, "full", *self.call_of(live, event))
        self.barred(live, ("enter", "b", (1, 1, 1)), "shape")
        self.barred(live, ("turn", "a", None), "shape")
        self.same(live.tally(), (58, 58))
        live.undo()
        self.same(live.leave("a"), (2,))
        self.barred(live, ("enter", "a", (1, 1)), "full")

    def test_name(self):
        live = self.score()
        for event in (("enter", "a", STEP), ("enter", "a", (5000,) * 6), ("leave", "b"), ("turn", "b", 0), ("stretch", "b", 1),
                      ("stretch", "b", 2), ("play", "b", "a"), ("play", "b", "b"), ("play", "b", "c")):
            self.barred(live, event, "name")
            self.barred(live, event, "name", *self.call_of(live, event))
        live.leave("a")
        self.barred(live, ("leave", "a"), "name")

    def test_other(self):
        live = self.score()
        for other in ("b", "aa", "loudly"):
            self.barred(live, ("play", "a", other), "other")
            self.barred(live, ("play", "loud", other), "other", live.play, "loud", other)

    def test_apart(self):
        for size in SIZES:
            live = self.score(size)
            live.undo()
            for k in list(range(-size - 1, size + 2)) + [10 ** 59]:
                if size > 1 and reckon.common(k, size) != 1:
                    self.barred(live, ("stretch", "a", k), "apart")
                else:
                    self.same(live.barred(("stretch", "a", k)), None)
        live = self.score(1)
        for k in (0, 1, -1, 2, 6, 10 ** 59):
            self.same(live.stretch("a", k), ())
        self.same(live.voices_now[0], ("a", (1,)))

    def test_loud(self):
        live = self.score()
        for k in range(6):
            for weight in (1001, -1001, 10 ** 59, -(10 ** 59)):
                voice = (0,) * k + (weight,) + (0,) * (5 - k)
                self.barred(live, ("enter", "b", voice), "loud", live.enter, "b", voice)
        self.same(live.enter("b", (1000, -1000, 0, 0, 0, 0)), ())
        self.barred(live, ("play", "loud", "loud"), "loud", live.play, "loud", "loud")
        self.barred(live, ("play", "b", "loud"), "loud", live.play, "b", "loud")
        live.enter("low", (-1, 0, 0, 0, 0, 0))
        self.same(live.play("b", "low"), ())
        self.same(dict(live.voices_now)["b"], (-1000, 1000, 0, 0, 0, 0))
        # Each weight that is made goes alone: 1000 and -1000 make 0 at one beat.
        live.enter("both", (1, 1, 0, 0, 0, 0))
        self.same(live.play("b", "both"), ())
        self.same(dict(live.voices_now)["b"], (-1000, 0, 1000, 0, 0, 0))
        live.enter("two", (2, 0, 0, 0, 0, 0))
        self.barred(live, ("play", "b", "two"), "loud")
        self.barred(live, ("play", "two", "b"), "loud")

    def test_a_reason_goes_ahead_of_the_later_ones(self):
        live = LiveScore(2)
        self.barred(live, ("enter", "a", (5000,)), "shape")
        self.barred(live, ("play", "a", "b"), "name")
        self.barred(live, ("stretch", "a", 2), "name")
        live.enter("a", (1000, 1000))
        self.barred(live, ("enter", "a", (5000, 0)), "name")
        self.barred(live, ("play", "a", "b"), "other")
        self.barred(live, ("play", "a", "a"), "loud")
        self.barred(live, ("stretch", "a", 2), "apart")


class Consequences(BeatTest):
    def test_lacking(self):
        chance = a_chance(900)
        for size in SIZES:
            live = LiveScore(size)
            for _ in range(38):
                event = some_event(chance, size, NAMES[:3])
                if live.barred(event) is not None:
                    continue
                ahead, now = set(live.lacking_now), set(live.go(event))
                if event[0] in ("enter", "play"):
                    self.assertLessEqual(now, ahead)
                elif event[0] == "leave":
                    self.assertLessEqual(ahead, now)
                else:
                    self.assertEqual(ahead, now)
                self.check_even(live)

    def check_even(self, live):
        self.assertIs(live.is_even(), live.lacking_now == ())
        totals = 1
        for _, voice in live.voices_now:
            totals *= sum(voice)
        if live.is_even():
            self.assertEqual(live.size_now * live.product_now[0], totals)
        for divisor in reckon.divisors(live.size_now):
            if all(reckon.silent(voice, divisor) for _, voice in live.voices_now):
                self.assertIn(divisor, live.silences_now)


if __name__ == "__main__":
    unittest.main()
