"""[33] and [36]: what is heard through a room, told back."""

import itertools
import unittest
from fractions import Fraction

from silentbeats.backs import back_of, is_open, told_back
from silentbeats.errors import NotUsable, Unmade
from silentbeats.rooms import heard
from tests import reckon
from tests.base import (
    ALL, NO_ENTRIES_OF_TWO, PAIR, STEP, THIRDS, BeatTest, a_chance, some_entries, some_room, some_voice,
)

SIZES = (1, 2, 3, 4, 5, 6, 8, 12, 15, 16)


def beat_nought(size):
    return (1,) + (0,) * (size - 1)


class Backs(BeatTest):
    def test_rooms_drawn_by_chance(self):
        chance = a_chance(360)
        for size in SIZES:
            for one in [some_voice(chance, size) for _ in range(4)] + [some_room(chance, size) for _ in range(4)]:
                self.check_room(one, some_entries(chance, size))

    def check_room(self, one, sound):
        silences = reckon.silences(one)
        self.tells(silences == (), is_open, one)
        if silences:
            self.fails(Unmade, {"divisor": silences[0]}, back_of, one)
            self.fails(Unmade, {"divisor": silences[0]}, told_back, one, sound)
            self.fails(Unmade, {"divisor": silences[0]}, told_back, one, (0,) * len(one))
        else:
            self.check_told(one, back_of(one), beat_nought(len(one)))
            self.tells(back_of(one), back_of, one)
            self.check_told(one, told_back(one, sound), sound)
            self.tells(told_back(one, sound), told_back, one, sound)

    def check_told(self, one, entries, sound):
        numbers = reckon.fractions(entries)
        self.same(entries, reckon.pairs(numbers))
        self.assertEqual(reckon.around(one, numbers), reckon.fractions(sound))

    def test_all_small_rooms(self):
        for size in (1, 2, 3, 4):
            for one in itertools.product((-1, 0, 2), repeat=size):
                self.check_room(one, beat_nought(size))

    def test_told_back_again_and_again(self):
        one, sound = (2, 1, 0, -1, 1), (1, (1, 2), 0, (-3, 7), -5)
        first = told_back(one, sound)
        second = told_back(one, first)
        self.same(heard(one, heard(one, second)), reckon.pairs(reckon.fractions(sound)))
        third = told_back(one, told_back(one, told_back(one, told_back(one, second))))
        self.check_told(one, third, told_back(one, told_back(one, told_back(one, second))))
        self.same(told_back(one, heard(one, sound)), reckon.pairs(reckon.fractions(sound)))

    def test_great_weights(self):
        one = tuple((k * 7919) % 2001 - 1000 for k in range(16))
        entries = back_of(one)
        self.check_told(one, entries, beat_nought(16))
        self.assertGreater(max(bottom for _, bottom in entries), 10 ** 40)
        self.check_told(one, told_back(one, entries), entries)

    def test_edges(self):
        self.tells(((-1, 3),), back_of, (-3,))
        self.tells(((5, 14),), told_back, (7,), ((5, 2),))
        self.tells(((0, 1),), told_back, (7,), (0,))
        self.fails(Unmade, {"divisor": 1}, back_of, (0,))
        self.fails(Unmade, {"divisor": 1}, told_back, (0,), (0,))
        self.fails(Unmade, {"divisor": 2}, told_back, PAIR, ALL)
        self.fails(Unmade, {"divisor": 3}, back_of, THIRDS)
        self.same(told_back(one=(2, 1), sound=(1, 0)), ((2, 3), (-1, 3)))

    def test_sounds_refused(self):
        for one in ((2, 1), (1, 1)):
            for thing in NO_ENTRIES_OF_TWO:
                self.refused("sound", told_back, one, thing)
        with self.assertRaises(NotUsable):
            told_back(STEP, (1, 0))

    def test_what_is_told_back_is_the_only_one(self):
        chance = a_chance(361)
        for size in (2, 3, 4):
            one = [v for v in [some_voice(chance, size) for _ in range(50)] if reckon.silences(v) == ()][0]
            entries = tuple(Fraction(k) for k in some_voice(chance, size))
            self.same(told_back(one, heard(one, tuple(int(k) for k in entries))), reckon.pairs(entries))


if __name__ == "__main__":
    unittest.main()
