"""[59], [60] and [62]: papers on fills, and their judge."""

import itertools
import unittest

from silentbeats.fillchecker import lets_fill
from silentbeats.fillpapers import fill_paper
from silentbeats.signs import fill_word
from tests.base import PATTERN, BeatTest, a_chance
from tests.test_linefills import clock, is_whole
from tests.test_signs import HALF, NO_PATTERNS, SIX, first, is_divided, second, signs, some_pattern

BROKEN = (0, 3, 5, 8, 9, 12, 14, 17, 18, 21, 23, 26)


class Papers(BeatTest):
    def check_own(self, pattern):
        paper = fill_paper(pattern)
        self.tells(paper, fill_paper, pattern)
        if not first(pattern):
            self.same(paper, ("first", signs(pattern)))
        elif not second(pattern):
            word, powers = paper
            self.assertEqual(word, "second")
            self.assertGreaterEqual(len(powers), 2)
            self.assertLessEqual(set(powers), set(signs(pattern)))
            product = 1
            for power in powers:
                product *= power
            self.assertFalse(is_divided(pattern, product))
        else:
            word, size, entries = paper
            self.assertEqual(word, "fill")
            self.assertTrue(is_whole(pattern, size, entries))
            self.assertEqual(size % clock(pattern), 0)
        self.tells(paper[0] == "fill", lets_fill, pattern, paper)
        self.assertIs(paper[0] == "fill", fill_word(pattern) == "fills")

    def test_all_small_patterns(self):
        for many in range(0, 9):
            for rest in itertools.combinations(range(1, 9), many):
                self.check_own((0,) + rest)

    def test_drawn_by_chance(self):
        chance = a_chance(600)
        for _ in range(150):
            self.check_own(some_pattern(chance))
        for pattern in ((0,), (0, 32), HALF, BROKEN, PATTERN, SIX):
            self.check_own(pattern)

    def test_refused(self):
        for thing in NO_PATTERNS:
            self.refused("pattern", fill_paper, thing)
            for paper in (None, ("fill", 1, (0,)), ("first", ())):
                self.refused("pattern", lets_fill, thing, paper)


class Judged(BeatTest):
    def test_right_papers_by_hand(self):
        self.tells(True, lets_fill, PATTERN, ("fill", 8, (0, 2)))
        self.tells(True, lets_fill, PATTERN, ("fill", 8, (1, 3)))
        self.tells(True, lets_fill, PATTERN, ("fill", 16, (0, 2, 8, 10)))
        self.tells(True, lets_fill, (0,), ("fill", 1, (0,)))
        self.tells(True, lets_fill, (0,), ("fill", 3, (0, 1, 2)))
        self.tells(True, lets_fill, (0, 9), ("fill", 2, (1,)))
        self.tells(False, lets_fill, (0, 1, 3), ("first", ()))
        self.tells(False, lets_fill, (0, 1, 2, 4), ("first", signs((0, 1, 2, 4))))
        self.tells(False, lets_fill, HALF, ("second", (3, 4)))
        self.tells(False, lets_fill, BROKEN, ("first", (2, 27)))
        # It fails (T1) and (T2): papers of both kinds are right.
        self.tells(False, lets_fill, BROKEN, ("second", (2, 27)))

    def test_shape(self):
        for thing in (
            None, True, 0, 1, "", "fill", (), [], ("fill",), ("fill", 8), ("fill", (0, 2)), ("fill", 8, [0, 2]),
            ("fill", 8, None), ("fill", 8, (0, 2), 0), ("fill", 0, ()), ("fill", -8, (0, 2)), ("fill", True, (0,)),
            ("fill", "8", (0, 2)), ("fill", None, (0, 2)), ["fill", 8, (0, 2)], ("Fill", 8, (0, 2)), ("first",),
            ("first", []), ("first", None), ("first", (), ()), ("second",), ("second", [3, 4]), ("second", (), 0),
            ("first", 3), ("third", ()), (("first",), ()), (None, ()), (True, 8, (0, 2)),
        ):
            self.unfit("shape", -1, lets_fill, PATTERN, thing)
            self.unfit("shape", -1, lets_fill, HALF, thing)

    def test_entries(self):
        for thing in ((8,), (-1, 0), (2, 0), (2, 2), (0, True), (None,), ("0",), ((0,),), (0, [2])):
            self.unfit("entries", -1, lets_fill, PATTERN, ("fill", 8, thing))

    def test_many(self):
        for entries in ((), (0,), (0, 1, 2), tuple(range(8))):
            self.unfit("many", -1, lets_fill, PATTERN, ("fill", 8, entries))
        self.unfit("many", -1, lets_fill, PATTERN, ("fill", 9, (0, 2)))
        self.unfit("many", -1, lets_fill, PATTERN, ("fill", 10 ** 59, (0, 2)))
        self.unfit("many", -1, lets_fill, (0,), ("fill", 1, ()))

    def test_twice(self):
        for pattern, size in ((PATTERN, 8), ((0, 1), 6), ((0, 3), 6), ((0, 6), 6), ((0, 1, 2), 6), ((0, 8), 4)):
            for entries in itertools.combinations(range(size), size // len(pattern)):
                met, at = [], None
                for (k, entry), (j, element) in itertools.product(enumerate(entries), enumerate(pattern)):
                    if (entry + element) % size in met and at is None:
                        at = (k, j)
                    met.append((entry + element) % size)
                if at is None:
                    self.tells(True, lets_fill, pattern, ("fill", size, entries))
                else:
                    self.unfit("twice", at, lets_fill, pattern, ("fill", size, entries))
        self.unfit("twice", (1, 1), lets_fill, PATTERN, ("fill", 8, (0, 7)))
        self.unfit("twice", (0, 1), lets_fill, (0, 6), ("fill", 6, (0, 1, 2)))

    def test_sign(self):
        for word in ("first", "second"):
            for sign in (0, 1, 2, 6, 9, 12, -3, None, True, "3", (3,), [3]):
                self.unfit("sign", 0, lets_fill, HALF, (word, (sign, 4)))
                self.unfit("sign", 1, lets_fill, HALF, (word, (3, sign)))
            self.unfit("sign", 1, lets_fill, HALF, (word, (4, 3)))
            self.unfit("sign", 1, lets_fill, HALF, (word, (3, 3)))
            self.unfit("sign", 2, lets_fill, HALF, (word, (3, 4, None)))
            self.unfit("sign", 0, lets_fill, (0,), (word, (1,)))
            self.unfit("sign", 2, lets_fill, PATTERN, (word, (2, 8, 8)))

    def test_lacks_and_first(self):
        self.unfit("lacks", 2, lets_fill, PATTERN, ("first", ()))
        self.unfit("lacks", 2, lets_fill, PATTERN, ("first", (8,)))
        self.unfit("lacks", 8, lets_fill, PATTERN, ("first", (2,)))
        self.unfit("first", -1, lets_fill, PATTERN, ("first", (2, 8)))
        self.unfit("first", -1, lets_fill, HALF, ("first", (3, 4)))
        self.unfit("first", -1, lets_fill, (0,), ("first", ()))
        self.unfit("lacks", signs(BROKEN)[0], lets_fill, BROKEN, ("first", ()))

    def test_prime_and_many_and_second(self):
        self.unfit("prime", 1, lets_fill, PATTERN, ("second", (2, 8)))
        self.unfit("many", -1, lets_fill, PATTERN, ("second", (2,)))
        self.unfit("many", -1, lets_fill, PATTERN, ("second", ()))
        self.unfit("many", -1, lets_fill, HALF, ("second", (4,)))
        self.unfit("second", -1, lets_fill, SIX, ("second", (2, 3)))
        twelve = tuple(range(12))
        self.same(signs(twelve), (2, 3, 4))
        self.unfit("prime", 2, lets_fill, twelve, ("second", (2, 3, 4)))
        self.unfit("prime", 1, lets_fill, twelve, ("second", (2, 4)))
        self.unfit("second", -1, lets_fill, twelve, ("second", (3, 4)))
        self.unfit("sign", 3, lets_fill, twelve, ("second", (2, 3, 4, 5)))

    def test_named(self):
        self.assertIs(lets_fill(thing=("fill", 2, (0,)), pattern=(0, 1)), True)
        self.same(fill_paper(pattern=(0,)), ("fill", 1, (0,)))


if __name__ == "__main__":
    unittest.main()
