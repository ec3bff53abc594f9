"""[6], [10] and [33] to [35]: what a room makes of entries."""

import itertools
import unittest
from fractions import Fraction

from silentbeats.errors import Unmade
from silentbeats.rooms import bar_of, can_make, deaf_rows, entries_for, heard
from silentbeats.voices import product_of, turned
from tests import reckon
from tests.base import ALL, NO_ENTRIES_OF_TWO, PAIR, STEP, THIRDS, BeatTest, a_chance, no_voices_of, some_room, some_voice

class RoomTest(BeatTest):
    def test_making(self):
        chance = a_chance(340)
        for size in (1, 2, 3, 4, 6, 8, 12, 15, 16):
            for _ in range(5):
                one = some_room(chance, size)
                self.check_pair(one, some_voice(chance, size))
                self.check_pair(one, some_room(chance, size))
                self.check_pair(one, reckon.around(one, some_voice(chance, size)))
                self.check_pair(one, one)
                self.check_pair(one, (0,) * size)

    def check_pair(self, one, other):
        bars = [d for d in reckon.divisors(len(one)) if reckon.silent(one, d) and not reckon.silent(other, d)]
        self.tells(bars == [], can_make, one, other)
        self.tells(bars[0] if bars else None, bar_of, one, other)
        if bars:
            self.fails(Unmade, {"divisor": bars[0]}, entries_for, one, other)
        else:
            found = entries_for(one, other)
            self.tells(found, entries_for, one, other)
            numbers = reckon.fractions(found)
            self.same(found, reckon.pairs(numbers))
            self.assertEqual(reckon.around(one, numbers), other)
            self.same(heard(one, found), reckon.pairs(other))

    def test_all_strokes_of_four(self):
        voices = list(itertools.product((0, 1), repeat=4))
        for one, other in itertools.product(voices, voices):
            self.check_pair(one, other)

    def test_great_weights(self):
        one = tuple((k * 7919) % 2001 - 1000 for k in range(16))
        other = tuple((k * 104729) % 2001 - 1000 for k in range(16))
        self.check_pair(one, other)
        self.assertGreater(max(abs(top) for top, _ in entries_for(one, other)), 10 ** 40)

    def test_edges(self):
        self.tells(((5, 2),), entries_for, (2,), (5,))
        self.tells(((-1, 1),), entries_for, (-3,), (3,))
        self.fails(Unmade, {"divisor": 1}, entries_for, (0,), (3,))
        self.tells(True, can_make, (0,), (0,))
        self.same(heard((0,), entries_for((0,), (0,))), ((0, 1),))
        self.tells(1, bar_of, (1, -1), (1, 1))

    def test_others_refused(self):
        for function in (can_make, bar_of, entries_for):
            for thing in no_voices_of(6):
                self.refused("other", function, STEP, thing)

    def test_heard(self):
        chance = a_chance(341)
        for size in (1, 2, 3, 6, 12):
            for _ in range(5):
                one = some_room(chance, size)
                entries = tuple(
                    chance.choice((k, Fraction(k, chance.randint(1, 9)))) for k in some_voice(chance, size, -9, 9))
                mixed = tuple(reckon.pairs([k])[0] if isinstance(k, Fraction) else k for k in entries)
                self.tells(reckon.pairs(reckon.around(one, entries)), heard, one, mixed)
        self.tells(((3, 2), (3, 1)), heard, (3, 0), ((1, 2), 1))
        self.tells(((0, 1), (0, 1)), heard, (0, 0), ((1, 2), 1))
        self.tells(((10 ** 70, 1),), heard, (10,), (10 ** 69,))
        self.tells(((10, 10 ** 70 + 1),), heard, (10,), ((1, 10 ** 70 + 1),))

    def test_entries_refused(self):
        for thing in NO_ENTRIES_OF_TWO:
            self.refused("entries", heard, (2, 1), thing)

    def test_deaf_rows(self):
        chance = a_chance(342)
        for size in (1, 2, 3, 4, 6, 12, 16):
            for one in (some_room(chance, size), (0,) * size, (1,) * size, some_voice(chance, size)):
                rows = deaf_rows(one)
                self.tells(rows, deaf_rows, one)
                sounding = [d for d in reckon.divisors(size) if not reckon.silent(one, d)]
                rank = size - sum(len(reckon.wheel(d)) - 1 for d in sounding)
                self.assertEqual((type(rows), len(rows)), (tuple, rank))
                for k, row in enumerate(rows):
                    self.same(row[:rank], tuple(int(beat == k) for beat in range(rank)))
                    self.same(heard(one, row), ((0, 1),) * size)
        self.tells((), deaf_rows, (2, 1))
        self.tells(((1,),), deaf_rows, (0,))
        self.tells(((1, 0), (0, 1)), deaf_rows, (0, 0))

    def test_what_is_heard_as_nothing_is_made_of_deaf_rows(self):
        for one in (PAIR, THIRDS, STEP):
            rows = deaf_rows(one)
            for entries in itertools.product((-1, 0, 1), repeat=6):
                made = tuple(sum(weight * row[k] for weight, row in zip(entries, rows)) for k in range(6))
                self.assertIs(not any(reckon.around(one, entries)), made == entries)


class Consequences(BeatTest):
    def test_turned_and_added(self):
        chance = a_chance(350)
        for one in (PAIR, STEP, ALL, some_voice(chance, 6)):
            first, second = some_voice(chance, 6), some_voice(chance, 6)
            for k in range(-7, 8):
                self.same(heard(one, turned(first, k)), turned_quotients(heard(one, first), k))
            both = tuple(a + b for a, b in zip(first, second))
            sums = [a + b for a, b in zip(*[reckon.fractions(heard(one, part)) for part in (first, second)])]
            self.same(heard(one, both), reckon.pairs(sums))

    def test_entries_and_deaf_rows(self):
        chance = a_chance(351)
        for one in (PAIR, STEP, THIRDS):
            other = product_of(one, some_voice(chance, 6))
            numbers = list(reckon.fractions(entries_for(one, other)))
            for row in deaf_rows(one):
                share = Fraction(chance.randint(-9, 9), chance.randint(1, 9))
                numbers = [number + share * weight for number, weight in zip(numbers, row)]
            self.same(heard(one, reckon.pairs(numbers)), reckon.pairs(other))

    def test_what_can_be_told_back(self):
        for one in itertools.product((-1, 0, 1), repeat=4):
            told_back = all(can_make(one, other) for other in itertools.product((0, 1), repeat=4))
            self.assertIs(told_back, reckon.silences(one) == ())
            self.assertIs(told_back, deaf_rows(one) == ())


def turned_quotients(quotients, k):
    size = len(quotients)
    return tuple(quotients[(beat - k) % size] for beat in range(size))


if __name__ == "__main__":
    unittest.main()
