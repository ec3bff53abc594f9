"""[40] and [41]: papers on what a room makes, and their judges."""

import itertools
import unittest

from silentbeats.errors import Unmade
from silentbeats.roomchecker import lets_made, lets_whole
from silentbeats.roompapers import made_paper, whole_paper
from silentbeats.voiceclasses import Voice
from tests import reckon
from tests.base import (
    ALL, NO_ENTRIES_OF_TWO, PAIR, STEP, THIRDS, BeatTest, a_chance, no_voices_of, some_room, some_voice,
)
from tests.test_wholes import is_bar

NOTHING = (None, True, 0, 1, "", "made", "whole", (), [], ("made",), ("whole",), ("bar",), ("silent",), (True, ()), ((), ()))


class Made(BeatTest):
    def test_own_papers(self):
        chance = a_chance(400)
        for size in (1, 2, 3, 4, 6, 8, 12, 16):
            for _ in range(6):
                one = some_room(chance, size)
                for other in (some_voice(chance, size), some_room(chance, size), (0,) * size,
                              reckon.around(one, some_voice(chance, size))):
                    self.check_own(one, other)

    def check_own(self, one, other):
        paper = made_paper(one, other)
        self.tells(paper, made_paper, one, other)
        bars = [d for d in reckon.silences(one) if not reckon.silent(other, d)]
        if bars:
            word, divisor, rest = paper
            self.assertEqual(word, "silent")
            self.assertIn(divisor, bars)
            self.same(rest, tuple(int(k) for k in reckon.rest(other, divisor)))
        else:
            word, entries = paper
            self.assertEqual(word, "made")
            self.same(entries, reckon.pairs(reckon.fractions(entries)))
            self.assertEqual(reckon.around(one, reckon.fractions(entries)), other)
        self.tells(not bars, lets_made, one, other, paper)

    def test_right_papers_by_hand(self):
        self.tells(True, lets_made, (2, 1), (1, 0), ("made", ((2, 3), (-1, 3))))
        self.tells(True, lets_made, PAIR, ALL, ("made", (1, 1, 1, 0, 0, 0)))
        self.tells(True, lets_made, PAIR, ALL, ("made", (0, 1, 1, 1, 0, 0)))
        self.tells(True, lets_made, PAIR, ALL, ("made", ((1, 2), 1, (1, 3), (1, 2), 0, (2, 3))))
        self.tells(True, lets_made, (0, 0), (0, 0), ("made", ((1, 7), -5)))
        self.tells(False, lets_made, STEP, THIRDS, ("silent", 2, (3,)))
        self.tells(False, lets_made, (0,) * 6, PAIR, ("silent", 3, (2, 0)))
        self.tells(False, lets_made, (0,) * 6, PAIR, ("silent", 1, (2,)))
        self.tells(True, lets_made, (3,), (5,), ("made", ((5, 3),)))
        self.tells(False, lets_made, (0,), (5,), ("silent", 1, (5,)))

    def test_shape(self):
        for thing in NOTHING + (
            ("made", [1, 0]), ("made", None), ("made", (1, 0), ()), ["made", (1, 0)], ("whole", (1, 0)), ("Made", (1, 0)),
            ("silent", 1), ("silent", (1,)), ("silent", 1, [1]), ("silent", 1, 1), ("silent", 1, (1,), 1),
            ("sounds", 1, (1,)), (("made",), (1, 0)),
        ):
            self.unfit("shape", -1, lets_made, (2, 1), (1, 0), thing)

    def test_entries(self):
        for thing in NO_ENTRIES_OF_TWO:
            if isinstance(thing, tuple):
                self.unfit("entries", -1, lets_made, (2, 1), (1, 0), ("made", thing))
        self.unfit("entries", -1, lets_made, (2, 1), (1, 0), ("made", ((4, 6), (-1, 3))))

    def test_beat(self):
        for beat in range(6):
            wrong = tuple(weight + int(k >= beat) for k, weight in enumerate(STEP))
            self.unfit("beat", beat, lets_made, (1, 0, 0, 0, 0, 0), STEP, ("made", wrong))
        self.unfit("beat", 0, lets_made, (2, 1), (1, 0), ("made", ((2, 3), (-1, 2))))
        self.unfit("beat", 1, lets_made, (2, 1), (1, 1), ("made", ((2, 3), (-1, 3))))
        self.unfit("beat", 1, lets_made, (0, 0), (0, 1), ("made", (1, 1)))

    def test_divisor(self):
        for thing in (0, -1, 4, 5, 12, None, True, "2", (2,), [2], ()):
            self.unfit("divisor", -1, lets_made, STEP, THIRDS, ("silent", thing, ()))

    def test_sounds_and_rest_and_nought(self):
        for divisor in (1, 3, 6):
            self.unfit("sounds", -1, lets_made, STEP, THIRDS, ("silent", divisor, (3,)))
        for rest in ((), (2,), (3, 0), (True,), ((3,),), ([3],), (None,), ("3",), ((3, 1),)):
            self.unfit("rest", -1, lets_made, STEP, THIRDS, ("silent", 2, rest))
        self.unfit("rest", -1, lets_made, PAIR, (1, 0, 0, 0, 0, 0), ("silent", 2, (True,)))
        self.unfit("rest", -1, lets_made, PAIR, (1, 0, 0, 0, 0, 0), ("silent", 6, (1, False)))
        self.tells(False, lets_made, PAIR, (1, 0, 0, 0, 0, 0), ("silent", 6, (1, 0)))
        self.unfit("rest", -1, lets_made, STEP, STEP, ("silent", 2, (1,)))
        self.unfit("nought", -1, lets_made, STEP, STEP, ("silent", 2, (0,)))
        self.unfit("nought", -1, lets_made, PAIR, (0,) * 6, ("silent", 6, (0, 0)))
        self.unfit("rest", -1, lets_made, PAIR, (0,) * 6, ("silent", 6, (0, False)))


class Whole(BeatTest):
    def test_own_papers(self):
        chance = a_chance(410)
        for size in (1, 2, 3, 4, 6, 8, 12, 16):
            for _ in range(6):
                one = some_room(chance, size)
                double = tuple(3 * weight for weight in one)
                for other in (some_voice(chance, size), some_room(chance, size), (0,) * size,
                              reckon.around(one, some_voice(chance, size))):
                    self.check_own(one, other)
                    self.check_own(double, other)

    def check_own(self, one, other):
        bars = [d for d in reckon.silences(one) if not reckon.silent(other, d)]
        if bars:
            self.fails(Unmade, {"divisor": bars[0]}, whole_paper, one, other)
            return
        paper = whole_paper(one, other)
        self.tells(paper, whole_paper, one, other)
        word, entries = paper
        if word == "whole":
            self.assertTrue(all(type(entry) is int for entry in entries))
            self.same(reckon.around(one, entries), other)
        else:
            self.assertEqual(word, "bar")
            self.same(entries, reckon.pairs(reckon.fractions(entries)))
            self.assertTrue(is_bar(one, other, entries))
        self.tells(word == "whole", lets_whole, one, other, paper)

    def test_right_papers_by_hand(self):
        self.tells(False, lets_whole, (2, 1), (1, 0), ("bar", ((1, 3), (1, 3))))
        self.tells(False, lets_whole, (2, 0), (1, 0), ("bar", ((1, 2), 0)))
        self.tells(False, lets_whole, (2, 0), (1, 0), ("bar", ((-3, 2), (5, 2))))
        self.tells(True, lets_whole, PAIR, ALL, ("whole", (1, 1, 1, 0, 0, 0)))
        self.tells(True, lets_whole, PAIR, ALL, ("whole", (3, 1, 0, -2, 0, 1)))
        self.tells(True, lets_whole, (0,), (0,), ("whole", (-5,)))
        self.tells(False, lets_whole, (2,), (1,), ("bar", ((1, 2),)))
        # One does not make other at all: a bar stands, too.
        self.tells(False, lets_whole, STEP, THIRDS, ("bar", ((1, 2), (-1, 2)) * 3))
        self.tells(False, lets_whole, (0,), (1,), ("bar", ((1, 2),)))

    def test_shape(self):
        for thing in NOTHING + (
            ("whole", [1, 0]), ("bar", [1, 0]), ("whole", None), ("bar", 0), ("whole", (1, 0), ()), ["bar", (1, 0)],
            ("made", (1, 0)), ("silent", 1, (1,)), ("Bar", (1, 0)), (("bar",), (1, 0)), (None, (1, 0)),
        ):
            self.unfit("shape", -1, lets_whole, (2, 1), (1, 0), thing)

    def test_entries(self):
        for thing in NO_ENTRIES_OF_TWO:
            if isinstance(thing, tuple):
                self.unfit("entries", -1, lets_whole, (2, 1), (1, 0), ("bar", thing))
                self.unfit("entries", -1, lets_whole, (2, 1), (1, 0), ("whole", thing))
        for thing in (((2, 3), (-1, 3)), ((1, 1), (0, 1)), (1, (0, 1)), (1, False), (1, 0, 0)):
            self.unfit("entries", -1, lets_whole, (2, 1), (1, 0), ("whole", thing))

    def test_beat(self):
        for beat in range(6):
            wrong = tuple(weight + int(k >= beat) for k, weight in enumerate(STEP))
            self.unfit("beat", beat, lets_whole, (1, 0, 0, 0, 0, 0), STEP, ("whole", wrong))
        self.unfit("beat", 0, lets_whole, (2, 1), (1, 0), ("whole", (1, 0)))
        self.unfit("beat", 1, lets_whole, (2, 1), (2, 0), ("whole", (1, 0)))

    def test_turn_and_other(self):
        self.unfit("turn", 0, lets_whole, (2, 1), (1, 0), ("bar", ((1, 5), (1, 3))))
        self.unfit("turn", 1, lets_whole, (2, 1), (1, 0), ("bar", ((1, 2), 0)))
        self.unfit("turn", 2, lets_whole, (0, 0, 0, 1), (0,) * 4, ("bar", (0, (1, 2), 0, 0)))
        self.unfit("turn", 3, lets_whole, (1, 0, 0, 0), (0,) * 4, ("bar", (0, 0, 0, (1, 2))))
        self.unfit("other", -1, lets_whole, (2, 1), (3, 0), ("bar", ((1, 3), (1, 3))))
        self.unfit("other", -1, lets_whole, (2, 1), (1, 0), ("bar", (1, 5)))
        self.unfit("other", -1, lets_whole, (2, 0), (2, 1), ("bar", ((1, 2), (0, 1))))
        self.unfit("other", -1, lets_whole, (2,), (0,), ("bar", ((1, 2),)))

    def test_all_small_bars(self):
        halves = [(0, 1), (1, 1), (1, 2), (-1, 2), (1, 3)]
        for one in ((2, 1), (1, 1), (2, 2), (0, 0), (3, -3)):
            for other in ((1, 0), (1, 1), (2, 1), (0, 0)):
                for entries in itertools.product(halves, repeat=2):
                    turns = [k for k in range(2) if not is_whole_measure(entries, reckon.later(one, k))]
                    if turns:
                        self.unfit("turn", turns[0], lets_whole, one, other, ("bar", entries))
                    elif is_whole_measure(entries, other):
                        self.unfit("other", -1, lets_whole, one, other, ("bar", entries))
                    else:
                        self.tells(False, lets_whole, one, other, ("bar", entries))


def is_whole_measure(entries, voice):
    return sum(a * b for a, b in zip(reckon.fractions(entries), voice)).denominator == 1


class Refused(BeatTest):
    def test_others_come_first(self):
        for thing in no_voices_of(6) + (Voice(*PAIR),):
            self.refused("other", made_paper, STEP, thing)
            self.refused("other", whole_paper, STEP, thing)
            for paper in (None, ("made", ()), ("bar", ())):
                self.refused("other", lets_made, STEP, thing, paper)
                self.refused("other", lets_whole, STEP, thing, paper)

    def test_named(self):
        self.assertIs(lets_made(thing=("made", (1,)), other=(2,), one=(2,)), True)
        self.assertIs(lets_whole(thing=("whole", (1,)), other=(2,), one=(2,)), True)
        self.same(made_paper(other=(1,), one=(2,)), ("made", ((1, 2),)))
        self.same(whole_paper(other=(1,), one=(2,)), ("bar", ((1, 2),)))


if __name__ == "__main__":
    unittest.main()
