"""[37] to [40]: what a room makes of integers."""

import itertools
import unittest

from silentbeats.backs import back_of
from silentbeats.errors import Unmade
from silentbeats.wholes import least_multiple, room_index, whole_bar, whole_entries
from tests import reckon
from tests.base import ALL, PAIR, STEP, THIRDS, BeatTest, a_chance, no_voices_of, some_room, some_voice

DOUBLE = (2, 2, 0, 0, 0, 0)


def measure(entries, voice):
    return sum(a * b for a, b in zip(reckon.fractions(entries), voice))


def is_bar(one, other, entries):
    """Whether it is a bar by [40]."""
    turns = [measure(entries, reckon.later(one, k)) for k in range(len(one))]
    return all(value.denominator == 1 for value in turns) and measure(entries, other).denominator != 1


class Wholes(BeatTest):
    def check_pair(self, one, other):
        """The three tell the same of one and other, and what they tell is right by itself."""
        bars = [d for d in reckon.silences(one) if not reckon.silent(other, d)]
        if bars:
            for function in (least_multiple, whole_entries, whole_bar):
                self.fails(Unmade, {"divisor": bars[0]}, function, one, other)
            return None
        many, entries, bar = least_multiple(one, other), whole_entries(one, other), whole_bar(one, other)
        self.tells(many, least_multiple, one, other)
        self.tells(entries, whole_entries, one, other)
        self.tells(bar, whole_bar, one, other)
        self.assertTrue(type(many) is int and many >= 1)
        self.assertIs(entries is not None, many == 1)
        self.assertIs(bar is None, many == 1)
        self.assertEqual(room_index(one) % many, 0)
        if many == 1:
            self.assertTrue(all(type(entry) is int for entry in entries))
            self.same(reckon.around(one, entries), other)
        else:
            self.same(bar, reckon.pairs(reckon.fractions(bar)))
            self.assertTrue(is_bar(one, other, bar), (one, other, bar))
        return many

    def check_multiples(self, one, other):
        """The least multiple is made wholly, and none below it is: a bar of each stands."""
        many = self.check_pair(one, other)
        if many is not None and many <= 12:
            for k in range(-many, 2 * many + 1):
                found = whole_entries(one, tuple(k * weight for weight in other))
                self.assertIs(found is not None, k % many == 0)
        elif many is not None:
            self.same(least_multiple(one, tuple(many * weight for weight in other)), 1)

    def test_pairs_drawn_by_chance(self):
        chance = a_chance(370)
        for size in (1, 2, 3, 4, 6, 8, 9, 12, 16):
            for _ in range(6):
                one = some_room(chance, size)
                self.check_multiples(one, some_voice(chance, size))
                self.check_multiples(one, some_room(chance, size))
                self.check_pair(one, reckon.around(one, some_voice(chance, size)))
                double = tuple(2 * weight for weight in one)
                self.check_multiples(double, reckon.around(one, some_voice(chance, size)))
                self.check_multiples(reckon.around(one, (2, 1) + (0,) * (size - 2) if size > 1 else (3,)), one)
                self.check_pair(one, (0,) * size)

    def test_all_small_pairs(self):
        for size, weights in ((1, range(-4, 5)), (2, range(-2, 3)), (3, (-1, 0, 2))):
            voices = list(itertools.product(weights, repeat=size))
            for one, other in itertools.product(voices, voices):
                self.check_multiples(one, other)

    def test_whole_entries_against_all_small_ones(self):
        for one in itertools.product((-1, 0, 1, 2), repeat=3):
            made = {reckon.around(one, entries) for entries in itertools.product(range(-3, 4), repeat=3)}
            for other in itertools.product((-1, 0, 1), repeat=3):
                if other in made:
                    self.assertIsNotNone(whole_entries(one, other))
                    self.assertEqual(least_multiple(one, other), 1)

    def test_great_weights(self):
        one = tuple((k * 7919) % 2001 - 1000 for k in range(16))
        other = tuple((k * 104729) % 2001 - 1000 for k in range(16))
        self.assertGreater(self.check_pair(one, other), 10 ** 30)
        self.same(room_index(one), int(reckon.index(one)))

    def test_edges(self):
        self.tells(1, least_multiple, (0,), (0,))
        self.tells((0,), whole_entries, (0,), (0,))
        self.tells(None, whole_bar, (0,), (0,))
        self.tells(3, least_multiple, (-6,), (4,))
        self.tells((-2,), whole_entries, (-2,), (4,))
        self.tells(None, whole_entries, (2,), (3,))
        self.tells(1, least_multiple, (5,), (0,))
        self.fails(Unmade, {"divisor": 1}, least_multiple, (0,), (3,))
        self.fails(Unmade, {"divisor": 2}, whole_bar, STEP, THIRDS)
        self.tells(2, least_multiple, DOUBLE, STEP)
        self.tells(None, whole_entries, DOUBLE, STEP)
        self.tells(1, least_multiple, THIRDS, ALL)

    def test_others_refused(self):
        for function in (least_multiple, whole_entries, whole_bar):
            for thing in no_voices_of(6):
                self.refused("other", function, PAIR, thing)


class Index(BeatTest):
    def test_determinants_and_values_at_roots(self):
        chance = a_chance(380)
        for size in (1, 2, 3, 4, 5, 6, 8, 12, 16):
            for _ in range(5):
                for one in (some_voice(chance, size), some_room(chance, size), some_voice(chance, size, -99, 99)):
                    self.tells(int(reckon.index(one)), room_index, one)
                    if reckon.silences(one) == ():
                        turns = [reckon.later(one, k) for k in range(size)]
                        self.same(room_index(one), int(abs(reckon.determinant(turns))))

    def test_all_small_ones(self):
        for size in (1, 2, 3, 4):
            for one in itertools.product((-1, 0, 1, 3), repeat=size):
                self.tells(int(reckon.index(one)), room_index, one)

    def test_voices_counted_apart(self):
        """As many voices as room_index, no two of which differ by one that is made wholly, and no more."""
        for one in ((2, 1), (3,), (2, 2), (2, 0, 0), (1, 1, 2), (2, 0, 2, 0), (0, 0, 0), (3, -3), (1, 2, 1, 2)):
            size = len(one)
            apart = []
            for other in itertools.product(range(4), repeat=size):
                if any(not reckon.silent(other, d) for d in reckon.silences(one)):
                    continue
                gaps = [tuple(a - b for a, b in zip(other, voice)) for voice in apart]
                if all(whole_entries(one, gap) is None for gap in gaps):
                    apart.append(other)
            if reckon.silences(one) == ():
                self.assertEqual(len(apart), room_index(one), one)
            self.assertLessEqual(len(apart), room_index(one), one)

    def test_edges(self):
        self.tells(1, room_index, (0,))
        self.tells(7, room_index, (-7,))
        self.tells(1, room_index, (0,) * 6)
        self.tells(1, room_index, PAIR)
        self.tells(1, room_index, ALL)
        self.tells(2, room_index, (2,) * 6)
        self.tells(32, room_index, DOUBLE)
        self.tells(1000 ** 16, room_index, (1000,) + (0,) * 15)


class Consequences(BeatTest):
    def test_index_and_least_multiples(self):
        chance = a_chance(390)
        for size in (1, 2, 3, 4, 6):
            for _ in range(6):
                one = some_voice(chance, size)
                if reckon.silences(one) == ():
                    beats = [(0,) * k + (1,) + (0,) * (size - 1 - k) for k in range(size)]
                    many = reckon_lcm([least_multiple(one, beat) for beat in beats])
                    self.assertEqual(room_index(one) % many, 0)
                    self.assertEqual(many ** size % room_index(one), 0)
                    bottoms = [bottom for _, bottom in back_of(one)]
                    self.assertIs(max(bottoms) == 1, room_index(one) == 1)

    def test_rooms_of_index_one(self):
        for size in (1, 2, 3, 4, 6):
            for one in itertools.product((-1, 0, 1) if size == 6 else (-2, -1, 0, 1, 2), repeat=size):
                if reckon.silences(one) == () and room_index(one) == 1:
                    self.assertEqual(sorted(abs(weight) for weight in one), [0] * (size - 1) + [1])
            for k, weight in itertools.product(range(size), (-1, 1)):
                self.same(room_index((0,) * k + (weight,) + (0,) * (size - 1 - k)), 1)
        self.same(room_index((-2, 1, 3, 1, -2)), 1)

    def test_product_with_any_voice(self):
        chance = a_chance(391)
        for one in (PAIR, THIRDS, STEP, DOUBLE, (2, 1, 0, 3)):
            other = reckon.around(one, some_voice(chance, len(one)))
            self.same(least_multiple(one, other), 1)


def reckon_lcm(numbers):
    reached = 1
    for number in numbers:
        reached = reached * number // reckon.common(reached, number)
    return reached


if __name__ == "__main__":
    unittest.main()
