"""[42]: the classes Room and Open."""

import itertools
import unittest

from silentbeats.errors import Unmade
from silentbeats.roomclasses import Open, Room
from silentbeats.voiceclasses import Voice
from silentbeats.wholes import room_index
from tests import reckon
from tests.base import (
    ALL, NO_ENTRIES_OF_TWO, NO_VOICES, PAIR, STEP, THIRDS, BeatTest, a_chance, no_voices_of, shown, some_entries,
    some_room, some_voice,
)


class Derived(Room):
    """A derived class."""


class RoomTest(BeatTest):
    def test_properties(self):
        chance = a_chance(420)
        for size in (1, 2, 3, 4, 6, 12, 16):
            for voice in (some_room(chance, size), some_voice(chance, size), (0,) * size):
                for one in (Room(voice), Derived(voice)):
                    self.same(one.voice_now, voice)
                    self.same(one.silences_now, reckon.silences(voice))
                    self.same(one.index_now, int(reckon.index(voice)))
                    self.same(len(one), size)
        self.same(Room(voice=PAIR).voice_now, PAIR)
        self.same(Room((2, 2, 0, 0, 0, 0)).index_now, 32)

    def test_voices_refused(self):
        for kind in (Room, Derived, Open):
            for thing in NO_VOICES + (Voice(1), Room((1,))):
                self.refused("voice", kind, thing)

    def test_heard(self):
        chance = a_chance(421)
        for size in (1, 2, 3, 6, 12):
            voice, entries = some_room(chance, size), some_entries(chance, size)
            expected = reckon.pairs(reckon.around(voice, reckon.fractions(entries)))
            self.tells(expected, Room(voice), entries)
            self.same(Room(voice)(entries=entries), expected)
        for thing in NO_ENTRIES_OF_TWO:
            self.refused("entries", Room((2, 1)), thing)
            self.refused("entries", Room((1, 1)), thing)

    def test_back(self):
        chance = a_chance(422)
        for size in (1, 2, 3, 4, 6, 8, 12, 16):
            for _ in range(4):
                voice = some_room(chance, size)
                self.check_back(voice, some_entries(chance, size))
                self.check_back(voice, reckon.pairs(reckon.around(voice, reckon.fractions(some_entries(chance, size)))))
                self.check_back(voice, (0,) * size)
        self.fails(Unmade, {"divisor": 2}, Room(STEP).back, THIRDS)
        self.fails(Unmade, {"divisor": 1}, Room((0, 0)).back, (1, (1, 2)))
        self.fails(Unmade, {"divisor": 2}, Room((0, 0)).back, ((1, 2), (-1, 2)))
        self.same(Room((0, 0))(Room((0, 0)).back(sound=(0, (0, 1)))), ((0, 1), (0, 1)))
        for thing in NO_ENTRIES_OF_TWO:
            self.refused("sound", Room((2, 1)).back, thing)
            self.refused("sound", Room((1, 1)).back, thing)

    def check_back(self, voice, sound):
        numbers = reckon.fractions(sound)
        bars = [d for d in reckon.silences(voice) if not reckon.silent(numbers, d)]
        if bars:
            self.fails(Unmade, {"divisor": bars[0]}, Room(voice).back, sound)
            return
        found = Room(voice).back(sound)
        self.tells(found, Room(voice).back, sound)
        self.same(found, reckon.pairs(reckon.fractions(found)))
        self.assertEqual(reckon.around(voice, reckon.fractions(found)), numbers)

    def test_makes(self):
        for voice in itertools.product((0, 1), repeat=4):
            one = Room(voice)
            for other in itertools.product((-1, 0, 1), repeat=4):
                expected = all(reckon.silent(other, d) for d in reckon.silences(voice))
                self.assertIs(one.makes(other), expected)
        for thing in no_voices_of(6) + (Voice(*ALL), Room(ALL), list(ALL), (1, 1, 1, 1, 1, True)):
            self.tells(False, Room(PAIR).makes, thing)
            self.tells(False, Room(ALL).makes, thing)
        self.assertIs(Room(PAIR).makes(thing=ALL), True)

    def test_turns(self):
        for voice in (PAIR, THIRDS, STEP, (1, 2, 3), (5,), (0, 0)):
            one = Room(voice)
            turns = [reckon.later(voice, k) for k in range(len(voice))]
            self.same(list(one), turns)
            self.same([pair for pair in zip(one, one)], list(zip(turns, turns)))
            self.same([(a, b) for a in one for b in one], list(itertools.product(turns, turns)))
            for other in itertools.product((0, 1, 2), repeat=len(voice)):
                self.assertIs(other in one, other in turns)

    def test_contains_no_other_values(self):
        self.assertIs((1, 0, 0, 0, 0, 1) in Room(STEP), True)
        for thing in no_voices_of(6) + (
            list(STEP), (True, True, 0, 0, 0, 0), (1, 1, 0, 0, 0, False), Voice(*STEP), Room(STEP), (1, 1), STEP + STEP,
        ):
            self.assertIs(thing in Room(STEP), False)
        self.assertIs((True,) in Room((1,)), False)

    def test_equality(self):
        one = Room((2, 1))
        for other in (Room((2, 1)), Derived((2, 1)), Open((2, 1))):
            self.assertIs(one == other, True)
            self.assertIs(other == one, True)
            self.assertIs(one != other, False)
        for other in (Room((1, 2)), Room((2, 1, 0)), (2, 1), [2, 1], Voice(2, 1), None, True, "", 0):
            self.assertIs(one == other, False)
            self.assertIs(one != other, True)

    def test_nothing_changes_it(self):
        one, other = Room(STEP), Open((2, 1))
        before = shown((one, other))
        for _ in range(2):
            told = (list(one), one.voice_now, one.silences_now, one.index_now, one((1, 0, 0, 0, 0, 0)), one.back(STEP),
                    one.makes(ALL), STEP in one, one == other, len(one), other.back_now, other.back((1, 1)))
            self.assertEqual(shown((one, other)), before)
            self.refused("entries", one, None)
            self.refused("sound", one.back, None)
            self.fails(Unmade, {"divisor": 2}, one.back, THIRDS)
            self.assertEqual(shown((one, other)), before)
        self.assertEqual(told[-2:], (((2, 3), (-1, 3)), ((1, 3), (1, 3))))


class OpenTest(BeatTest):
    def test_open_rooms(self):
        chance = a_chance(423)
        for size in (1, 2, 3, 4, 6, 8, 12):
            for _ in range(6):
                voice = some_voice(chance, size)
                if reckon.silences(voice):
                    self.refused("voice", Open, voice)
                else:
                    self.check_open(Open(voice), voice)
        for voice in (STEP, PAIR, THIRDS, ALL, (0,), (0, 0), (1, -1)):
            self.refused("voice", Open, voice)

    def check_open(self, one, voice):
        size = len(voice)
        numbers = reckon.fractions(one.back_now)
        self.same(one.back_now, reckon.pairs(numbers))
        self.assertEqual(reckon.around(voice, numbers), (1,) + (0,) * (size - 1))
        self.same((one.voice_now, one.silences_now, one.index_now), (voice, (), room_index(voice)))
        self.same(one.back(one(voice)), reckon.pairs(voice))
        self.assertIsInstance(one, Room)
        self.assertIs(one == Room(voice), True)
        self.assertIs(voice in one, True)


if __name__ == "__main__":
    unittest.main()
