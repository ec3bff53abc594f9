"""[92]: the class Desk."""

import unittest

from silentbeats.desk import Desk
from silentbeats.errors import InvalidEvent, InvalidRow, NothingToUndo, NotUsable, Unmade
from tests import reckon
from tests.base import BeatTest, a_chance
from tests.plain_score import Plain, line, some_event
from tests.test_liveevents import NO_NAMES

NO_ROWS = (
    "", " ", "score", "score ", "score 0", "score 37", "score 06", "score 6 6", "score a", "Score 6", " score 6", "score 6 ", "score -1",
    "undo ", "undo a", "Undo", " undo", "sum ", "sum a", "product x", "silences 2", "lacking  ", "even a", "table a", "events 1",
    "bars", "bars ", "bars leave", "bars a", "bars undo", "bars score 6", "bars bars leave a", "bars sum", "bars  leave a", "bars leave A",
    "bars leave a ", "bars turn a 01", "note", "note ", "note A", "note a b", "note a ", "note 1", "since", "since A", "since a b",
    "since abcdefghi", "through", "through a", "through a b c", "through A b", "through a B", "through a  b", "back", "back a", "back a b c",
    "back 1 a", "back a 1", "makers", "makers A", "makers a b", "fillers", "fillers 1", "fillers a b", "leave", "leave A", "leave a b",
    "enter a", "enter a x", "enter a 1 02", "turn a", "turn a 1 1", "stretch a b", "play a", "play a b c", "tried leave a", "tally", "log",
    "notes", "counts", "do leave a", "say sum", "\n", "undo\n", "sum\n", "score 6\n", "leave a\n", "bars leave a\n", "note a\n", "-", "ok",
    "voice 1 0", "is_even", "voices", "size",
)


class DeskTest(BeatTest):
    def setUp(self):
        self.desk, self.calls = Desk(), 0

    def says(self, row, expected):
        self.calls += 1
        self.same(self.desk.say(row), expected)
        self.same(self.desk.counts(), (self.calls, self.calls))

    def stops(self, row, kind, fields):
        self.calls += 1
        with self.assertRaises(kind) as caught:
            self.desk.say(row)
        self.assertIs(type(caught.exception), kind)
        self.same(vars(caught.exception), fields)
        self.same(self.desk.counts(), (self.calls, self.calls))

    def told(self):
        """What the desk says without any change."""
        rows = ("sum", "product", "silences", "lacking", "even", "table", "events")
        self.calls += len(rows)
        return [self.desk.say(row) for row in rows]


class Ahead(DeskTest):
    def test_ahead_of_the_first_score(self):
        self.same(self.desk.counts(), (0, 0))
        for row in NO_ROWS + ("undo", "sum", "product", "silences", "lacking", "even", "table", "events", "bars leave a", "note a",
                              "since a", "through a b", "back a b", "makers a", "fillers a", "leave a", "enter a 1 0", "turn a 1",
                              "stretch a 1", "play a a"):
            self.stops(row, InvalidRow, {"row": row})
        self.says("score 6", "ok")
        self.says("sum", "0 0 0 0 0 0")

    def test_no_strings(self):
        for row in (None, True, 0, 1, (), ("sum",), [], ["sum"], b"sum"):
            self.stops(row, NotUsable, {"word": "row", "at": -1})
        self.says("score 1", "ok")
        for row in (None, True, 0, 1, (), ("sum",), [], ["sum"]):
            self.stops(row, NotUsable, {"word": "row", "at": -1})
        self.same(Desk().counts(), (0, 0))

    def test_named_and_apart(self):
        self.same(self.desk.say(row="score 2"), "ok")
        other = Desk()
        with self.assertRaises(InvalidRow):
            other.say("sum")
        self.desk.say("enter a 1 1")
        other.say("score 2")
        self.same((self.desk.say("sum"), other.say("sum")), ("1 1", "0 0"))
        self.same((self.desk.counts(), other.counts()), ((3, 3), (3, 3)))


class Rows(DeskTest):
    def test_other_rows(self):
        self.says("score 6", "ok")
        self.says("enter a 1 1 0 0 0 0", "3 6")
        told = self.told()
        for row in NO_ROWS:
            self.stops(row, InvalidRow, {"row": row})
        self.same(self.told(), told)
        for name in [name for name in NO_NAMES if isinstance(name, str)]:
            for row in (f"note {name}", f"since {name}", f"makers {name}", f"fillers {name}", f"through {name} a",
                        f"through a {name}", f"back {name} a", f"back a {name}", f"leave {name}", f"bars leave {name}"):
                if row not in ("through a a b", "back a a b"):
                    self.stops(row, InvalidRow, {"row": row})

    def test_each_row(self):
        self.says("score 3", "ok")
        for row, answer in (
            ("sum", "0 0 0"), ("product", "1 0 0"), ("silences", "1 3"), ("lacking", "3"), ("even", "no"), ("table", "-"),
            ("events", "-"), ("bars leave x", "name"), ("bars enter x 1 0", "shape"), ("bars enter x 1 0 0", "-"), ("note start", "0"),
            ("since start", "-"), ("enter r 2 1 0", "3"), ("enter h 2 3 1", "3"), ("back r h", "1 1 0"), ("back h r", "1/2 -1/2 1/2"),
            ("through r h", "5 8 5"), ("makers h", "r"), ("makers r", "h"), ("fillers h", "-"), ("note later", "2"),
            ("enter all 1 1 1", "-"), ("lacking", "-"), ("even", "yes"), ("fillers r", "all"), ("fillers all", "all h r"), ("makers all", "h r"),
            ("sum", "5 5 2"), ("product", "18 18 18"), ("silences", "-"), ("bars play r x", "other"), ("bars play x r", "name"),
            ("bars stretch r 3", "apart"), ("bars enter x 1001 0 0", "loud"), ("bars stretch r -1", "-"), ("turn r 1", "-"),
            ("stretch r 2", "-"), ("play h r", "-"), ("table", "all 1 1 1 : 3 / h 7 4 7 : - / r 0 1 2 : -"), ("undo", "play h r"),
            ("since later", "enter all 1 1 1 / turn r 1 / stretch r 2"), ("undo", "stretch r 2"), ("undo", "turn r 1"),
            ("since later", "enter all 1 1 1"), ("undo", "enter all 1 1 1"), ("since later", "-"), ("undo", "enter h 2 3 1"),
            ("events", "enter r 2 1 0"), ("since start", "enter r 2 1 0"), ("leave r", "3"), ("events", "enter r 2 1 0 / leave r"),
        ):
            self.says(row, answer)

    def test_errors_of_the_live_score(self):
        self.says("score 2", "ok")
        self.stops("undo", NothingToUndo, {"steps": 0})
        self.says("enter a 1 1", "-")
        told = self.told()
        self.stops("leave b", InvalidEvent, {"event": ("leave", "b"), "reason": "name"})
        self.stops("enter b 1 2 3", InvalidEvent, {"event": ("enter", "b", (1, 2, 3)), "reason": "shape"})
        self.stops("play a b", InvalidEvent, {"event": ("play", "a", "b"), "reason": "other"})
        self.stops("stretch a 2", InvalidEvent, {"event": ("stretch", "a", 2), "reason": "apart"})
        self.stops("enter b 0 -1001", InvalidEvent, {"event": ("enter", "b", (0, -1001)), "reason": "loud"})
        self.stops("back a a", Unmade, {"divisor": 2})
        for row, word in (("makers b", "name"), ("fillers b", "name"), ("through b a", "room"), ("through b b", "room"),
                          ("through a b", "name"), ("back b a", "room"), ("back a b", "name"), ("since n", "name")):
            self.stops(row, NotUsable, {"word": word, "at": -1})
        self.same(self.told(), told)
        self.says("note n", "1")
        self.stops("note n", NotUsable, {"word": "name", "at": -1})
        for _ in range(39):
            self.says("turn a 1", "-")
        self.stops("turn a 1", InvalidEvent, {"event": ("turn", "a", 1), "reason": "full"})
        self.says("bars leave b", "full")
        self.says("bars enter b 1", "shape")

    def test_a_new_score(self):
        self.says("score 2", "ok")
        self.says("enter a 1 1", "-")
        self.says("note n", "1")
        self.stops("score 37", InvalidRow, {"row": "score 37"})
        self.says("sum", "1 1")
        self.says("score 1", "ok")
        self.same(self.told(), ["0", "1", "1", "-", "yes", "-", "-"])
        self.says("note n", "0")
        self.says("score 36", "ok")
        self.says("lacking", "2 3 4 6 9 12 18 36")

    def test_quotients(self):
        self.says("score 2", "ok")
        self.says("enter a 2 1", "2")
        self.says("enter b 1 0", "2")
        self.says("back a b", "2/3 -1/3")
        self.says("back b a", "2 1")
        self.says("enter c 0 0", "-")
        self.says("back a c", "0 0")
        self.says("through c a", "0 0")

    def test_by_chance(self):
        chance = a_chance(920)
        for size in (1, 4, 6, 12, 36):
            self.says(f"score {size}", "ok")
            plain = Plain(size)
            for _ in range(25):
                event = some_event(chance, size)
                reason = plain.reason(event)
                self.says(f"bars {line(event)}", reason or "-")
                if reason is not None:
                    self.stops(line(event), InvalidEvent, {"event": event, "reason": reason})
                elif chance.random() < 0.2 and plain.events:
                    self.says("undo", line(plain.undo()))
                else:
                    plain.happen(event)
                    self.says(line(event), " ".join(str(d) for d in plain.lacking()) or "-")
            told = plain.told()
            self.same(self.told(), [
                " ".join(str(weight) for weight in told[2]), " ".join(str(weight) for weight in told[3]),
                " ".join(str(d) for d in told[4]) or "-", " ".join(str(d) for d in told[5]) or "-",
                "yes" if told[6] else "no", " / ".join(told[7]) or "-", told[-1],
            ])
            for name, voice in plain.voices.items():
                for room, other in plain.voices.items():
                    self.says(f"through {room} {name}", " ".join(str(weight) for weight in reckon.around(voice, other)))


if __name__ == "__main__":
    unittest.main()
