"""[10] (G3), [50] and [51]: papers on plain heaps, walks that bar, and their judge."""

import itertools
import unittest

from silentbeats.bars import bar_voice
from silentbeats.heapchecker import lets_heap
from silentbeats.heappapers import heap_paper
from tests import reckon
from tests.base import PAIR, STEP, THIRDS, BeatTest, a_chance, some_voice
from tests.test_heaps import THREE_PRIMES, has_heap, plain_heaps, some_silent
from tests.test_polygons import MIXED, NO_ROWS_OF_SIX, some_rows

SIX = bar_voice(30)
WALK = ((0, 1), (1, 0))


def weight_at(voice, coset, i, j, k):
    """a(i, j, k) of [50]: the beat of the coset that leaves these rests is searched for."""
    p, q, r = reckon.primes(len(voice))
    step = len(voice) // (p * q * r)
    ys = [y for y in range(p * q * r) if (y % p, y % q, y % r) == (i, j, k)]
    return voice[coset + step * ys[0]]


def bars_by_hand(voice, coset, walk):
    """Whether the walk bars the voice, added up as [50] says."""
    r = reckon.primes(len(voice))[2]
    spare, needed = 0, 0
    for at, (i, j) in enumerate(walk):
        ahead = walk[(at + 1) % len(walk)][0]
        spare += min(weight_at(voice, coset, ahead, j, k) for k in range(r))
        needed += weight_at(voice, coset, ahead, j, 0) - weight_at(voice, coset, i, j, 0)
    return walk != () and spare < needed


class Papers(BeatTest):
    def check_own(self, voice, plain):
        """The paper is of the kind that the voice asks for, and the judge accepts it."""
        size = len(voice)
        paper = heap_paper(voice)
        self.tells(paper, heap_paper, voice)
        if not reckon.silent(voice, size):
            self.same(paper, ("rest", tuple(int(k) for k in reckon.rest(voice, size))))
            expected = False
        elif min(voice) < 0:
            self.assertEqual(paper[0], "signed")
            self.same(reckon.heap(size, paper[1]), voice)
            expected = None
        elif plain:
            self.assertEqual(paper[0], "heap")
            self.same(reckon.heap(size, paper[1]), voice)
            self.assertTrue(all(many > 0 for _, _, many in paper[1]))
            expected = True
        else:
            word, coset, walk = paper
            self.assertEqual(word, "barred")
            self.assertTrue(bars_by_hand(voice, coset, walk))
            expected = False
        self.tells(expected, lets_heap, voice, paper)

    def test_all_voices_of_small_clocks(self):
        for size, weights in ((1, (-1, 0, 1)), (2, (-1, 0, 1, 2)), (3, (-1, 0, 1)), (4, (-1, 0, 1)), (6, (-1, 0, 1))):
            for voice in itertools.product(weights, repeat=size):
                self.check_own(voice, True)

    def test_drawn_by_chance(self):
        chance = a_chance(510)
        for size in (5, 8, 9, 12, 18, 36, 100, 108):
            self.check_own(some_voice(chance, size), True)
            self.check_own(reckon.heap(size, some_rows(chance, size)), True)
            self.check_own(reckon.heap(size, some_rows(chance, size, 0, 3)), True)

    def test_three_primes(self):
        chance = a_chance(511)
        told = []
        for size in THREE_PRIMES:
            self.check_own(bar_voice(size), False)
            for _ in range(8):
                voice = some_silent(chance, size)
                told.append(has_heap(voice, {}))
                self.check_own(voice, told[-1])
            self.check_own(reckon.heap(size, some_rows(chance, size)), True)
            self.check_own(some_voice(chance, size, 0, 3), True)
            self.check_own((0,) * size, True)
        self.assertGreater(told.count(True), 10)
        self.assertGreater(told.count(False), 10)

    def test_bars_in_later_cosets(self):
        """A voice that is a heap in the first coset, and barred in the second one."""
        for size, coset in ((60, 1), (90, 2)):
            voice = [0] * size
            for beat in range(30):
                voice[size // 30 * beat + coset] = SIX[beat]
                voice[size // 30 * beat] = 1
            self.check_own(tuple(voice), False)
            self.same(heap_paper(tuple(voice))[1], coset)

    def test_great_weights(self):
        voice = tuple(1000 * weight for weight in SIX)
        self.check_own(voice, False)
        self.check_own((1000,) * 110, True)
        self.check_own(tuple(1000 - weight for weight in SIX), has_heap(tuple(1 - weight for weight in SIX), {}))


class Judged(BeatTest):
    def test_right_papers_by_hand(self):
        self.tells(True, lets_heap, PAIR, ("heap", ((2, 0, 1),)))
        self.tells(True, lets_heap, (1,) * 6, ("heap", ((2, 0, 1), (2, 1, 1), (2, 2, 1))))
        self.tells(True, lets_heap, (1,) * 6, ("heap", ((3, 0, 1), (3, 1, 1))))
        self.tells(None, lets_heap, (1,) * 6, ("signed", ((3, 0, 1), (3, 1, 1))))
        self.tells(None, lets_heap, PAIR, ("signed", ((2, 1, -1), (2, 2, -1), (3, 0, 1), (3, 1, 1))))
        self.tells(None, lets_heap, MIXED, ("signed", ((2, 0, -1), (3, 0, 1))))
        self.tells(None, lets_heap, (0,), ("signed", ()))
        self.tells(True, lets_heap, (0,), ("heap", ()))
        self.tells(True, lets_heap, (0,) * 30, ("heap", ()))
        self.tells(False, lets_heap, (-3,), ("rest", (-3,)))
        self.tells(False, lets_heap, STEP, ("rest", (1, 1)))
        self.tells(False, lets_heap, SIX, ("barred", 0, WALK))
        self.tells(False, lets_heap, SIX, ("barred", 0, WALK * 2))

    def test_shape(self):
        for thing in (
            None, True, 0, "", "heap", (), [], ("heap",), ("rest",), ("heap", []), ("heap", None), ("signed", "x"),
            ("rest", [1]), ("heap", (), ()), ["heap", ()], ("Heap", ()), (True, ()), ((), ()), ("barred", ()),
            ("barred", 0), ("barred", 0, []), ("barred", 0, None), ("barred", 0, (), ()), ("heap", 0, ()), ("made", ()),
        ):
            self.unfit("shape", -1, lets_heap, PAIR, thing)
            self.unfit("shape", -1, lets_heap, SIX, thing)

    def test_rows(self):
        for word in ("heap", "signed"):
            for rows in NO_ROWS_OF_SIX:
                if isinstance(rows, tuple) and len(rows) == 1:
                    self.unfit("row", 0, lets_heap, PAIR, (word, rows))
                    self.unfit("row", 1, lets_heap, PAIR, (word, ((2, 0, 1),) + rows))
            for rows in (((2, 1, 1), (2, 0, 1)), ((3, 0, 1), (2, 0, 1)), ((2, 0, 1), (2, 0, 1)), ((2, 0, 1), (2, 0, 2))):
                self.unfit("row", 1, lets_heap, PAIR, (word, rows))
                self.unfit("row", 1, lets_heap, PAIR, (word, rows + (None,)))
            self.unfit("row", 0, lets_heap, PAIR, (word, (None, None)))
            self.unfit("row", 0, lets_heap, (0,), (word, ((1, 0, 1),)))
        self.unfit("row", 0, lets_heap, MIXED, ("heap", ((2, 0, -1), (3, 0, 1))))
        self.unfit("row", 1, lets_heap, PAIR, ("heap", ((2, 0, 1), (2, 1, -1))))
        self.unfit("beat", 1, lets_heap, PAIR, ("signed", ((2, 0, 1), (2, 1, -1))))

    def test_beat(self):
        for word in ("heap", "signed"):
            self.unfit("beat", 0, lets_heap, PAIR, (word, ()))
            self.unfit("beat", 0, lets_heap, PAIR, (word, ((2, 0, 2),)))
            self.unfit("beat", 2, lets_heap, PAIR, (word, ((2, 0, 1), (2, 2, 1))))
            self.unfit("beat", 5, lets_heap, (1, 0, 0, 1, 0, 1), (word, ((2, 0, 1),)))
            self.unfit("beat", 0, lets_heap, (1,), (word, ()))

    def test_rest(self):
        for rest in ((), (1,), (1, 1, 0), (1, True), (True, True), (0, 1), (None, 1), ((1, 1), (1, 1)), ([1], 1)):
            self.unfit("rest", -1, lets_heap, STEP, ("rest", rest))
        self.unfit("rest", -1, lets_heap, PAIR, ("rest", (0, 0)))
        self.unfit("rest", -1, lets_heap, (0,), ("rest", (0,)))
        self.unfit("rest", -1, lets_heap, (1,), ("rest", (True,)))
        self.unfit("rest", -1, lets_heap, PAIR, ("rest", ()))

    def test_coset(self):
        for coset in (1, -1, 30, None, True, False, "0", (0,), [0]):
            self.unfit("coset", -1, lets_heap, SIX, ("barred", coset, WALK))
        self.unfit("coset", -1, lets_heap, (0,) * 60, ("barred", 2, WALK))
        self.unfit("walk", -1, lets_heap, (0,) * 60, ("barred", 1, WALK))
        for voice in (PAIR, (1,), (1, 1), THIRDS * 2, (0,) * 210):
            for walk in ((), WALK, (None,)):
                self.unfit("coset", -1, lets_heap, voice, ("barred", 0, walk))

    def test_pair(self):
        for pair in (
            None, True, 0, "", (), (0,), (0, 1, 0), [0, 1], (2, 0), (0, 3), (-1, 0), (0, -1), (True, 0), (0, False),
            (None, 0), ("0", 0), ((0,), 0), (0, (0,)),
        ):
            self.unfit("pair", 0, lets_heap, SIX, ("barred", 0, (pair, (9, 9))))
            self.unfit("pair", 2, lets_heap, SIX, ("barred", 0, WALK + (pair,)))
        self.unfit("pair", 0, lets_heap, (0,) * 105, ("barred", 0, ((3, 0),)))
        self.unfit("walk", -1, lets_heap, (0,) * 105, ("barred", 0, ((2, 4),)))

    def test_walk(self):
        self.unfit("walk", -1, lets_heap, SIX, ("barred", 0, ()))
        self.unfit("walk", -1, lets_heap, (0,) * 30, ("barred", 0, WALK))
        self.unfit("walk", -1, lets_heap, (1,) * 30, ("barred", 0, ((0, 0),)))

    def test_all_short_walks(self):
        chance = a_chance(512)
        pairs = list(itertools.product(range(2), range(3)))
        walks = [walk for many in (1, 2, 3) for walk in itertools.product(pairs, repeat=many)]
        for voice in (SIX, reckon.later(SIX, 7), some_silent(chance, 30), some_voice(chance, 30, -2, 2)):
            for walk in walks:
                self.check_walk(voice, 0, walk)
        for _ in range(4):
            voice = some_voice(chance, 60, -1, 1)
            for walk in walks[:50]:
                self.check_walk(voice, 1, walk)

    def check_walk(self, voice, coset, walk):
        if bars_by_hand(voice, coset, walk):
            self.same(lets_heap(voice, ("barred", coset, walk)), False)
        else:
            self.unfit("walk", -1, lets_heap, voice, ("barred", coset, walk))

    def test_walks_of_three(self):
        """On 105 beats a walk may have to go over three of the i."""
        chance = a_chance(513)
        pairs = list(itertools.product(range(3), range(5)))
        for _ in range(3):
            voice = some_silent(chance, 105)
            for _ in range(60):
                self.check_walk(voice, 0, tuple(chance.choice(pairs) for _ in range(3)))

    def test_voice_that_needs_a_walk_of_three(self):
        """Slice 1 and slice 2 each bring down one weight of the first slice; two pairs never bar this voice."""
        first = ((0, 1, 0, 1, 1), (1, 1, 1, 1, 1), (1, 1, 0, 1, 1))
        rows, columns = {1: (1, 0, 1), 2: (1, 1, 0)}, {1: 0, 2: 1}
        voice = tuple(
            first[y % 3][y % 5] + (rows[y % 7][y % 3] - int(columns[y % 7] == y % 5) if y % 7 in rows else 0)
            for y in range(105)
        )
        self.assertTrue(reckon.silent(voice, 105) and min(voice) == 0)
        self.assertFalse(has_heap(voice, {}))
        walk = ((0, 0), (1, 1), (2, 2))
        for k in range(3):
            self.check_walk(voice, 0, walk[k:] + walk[:k])
            self.assertTrue(bars_by_hand(voice, 0, walk[k:] + walk[:k]))
        paper = heap_paper(voice)
        self.assertEqual((paper[0], len(paper[2])), ("barred", 3))
        self.tells(False, lets_heap, voice, paper)
        pairs = list(itertools.product(range(3), range(5)))
        for two in itertools.product(pairs, repeat=2):
            self.assertFalse(bars_by_hand(voice, 0, two))

    def test_one_pair_alone(self):
        voice = (-1,) + (0,) * 29
        self.tells(False, lets_heap, voice, ("barred", 0, ((0, 0),)))
        self.unfit("walk", -1, lets_heap, voice, ("barred", 0, ((0, 1),)))
        self.unfit("walk", -1, lets_heap, (0,) * 30, ("barred", 0, ((0, 0),)))

    def test_no_plain_heap_is_barred(self):
        chance = a_chance(514)
        walks = [tuple(itertools.product(range(2), range(3)))[a:b] for a in range(6) for b in range(a + 1, 7)]
        for _ in range(10):
            voice = reckon.heap(30, some_rows(chance, 30, 0, 3))
            for walk in walks:
                self.unfit("walk", -1, lets_heap, voice, ("barred", 0, walk))

    def test_named(self):
        self.assertIs(lets_heap(thing=("heap", ((2, 0, 1),)), voice=PAIR), True)
        self.same(heap_paper(voice=PAIR), ("heap", ((2, 0, 1),)))


class Guarantee(BeatTest):
    def test_two_primes_silent_means_plain(self):
        found = plain_heaps(6, 2)
        for voice in itertools.product((0, 1, 2), repeat=6):
            self.assertIs(heap_paper(voice)[0] == "heap", voice in found)


if __name__ == "__main__":
    unittest.main()
