"""[23], [28] and [29]: papers on silences and even fills, and their judges."""

import itertools
import unittest

from silentbeats.silencechecker import lets_even, lets_silence
from silentbeats.silencepapers import even_paper, silence_paper
from tests import reckon
from tests.base import NO_SIZES, PAIR, STEP, THIRDS, BeatTest, a_chance, no_voices_of, some_voice

NO_POLYNOMIALS = (True, None, 0, 1, "", "1", [], [1], (0,), (1, 0), (True,), (1, True), ("1",), ((1,),), (None,))
ODD_THINGS = (
    True, False, None, 0, 1, "", "silent", "sounds", "even", "bar", (), [], ("silent",), ("even",), ("bar",), ("sounds",),
    (("silent",), ()), (1, 2), (1, 2, 3), (None, None, None, None), ("Silent", ()), ("noisy", (1, 1)), ("", ()),
)


def right_paper(voice, divisor):
    """The only right paper, reckoned beside the program."""
    factor = tuple(int(weight) for weight in reckon.division(voice, reckon.wheel(divisor))[0])
    rest = tuple(int(weight) for weight in reckon.rest(voice, divisor))
    return ("sounds", factor, rest) if any(rest) else ("silent", factor)


class SilencePapers(BeatTest):
    def test_papers(self):
        chance = a_chance(280)
        for size in (1, 2, 3, 4, 6, 8, 12, 30, 36):
            voices = [some_voice(chance, size), (0,) * size, (1,) * size, (0,) * (size - 1) + (1000,)]
            for voice in voices:
                for divisor in reckon.divisors(size):
                    paper = right_paper(voice, divisor)
                    self.tells(paper, silence_paper, voice, divisor)
                    self.tells(paper[0] == "silent", lets_silence, voice, divisor, paper)

    def test_divisors_refused(self):
        for thing in NO_SIZES + (4, 5, 12):
            self.refused("divisor", silence_paper, STEP, thing)
            self.refused("divisor", lets_silence, STEP, thing, ("silent", (1,)))
            self.refused("divisor", lets_silence, STEP, thing, None)

    def test_shape(self):
        for thing in ODD_THINGS + (("silent", (1, 1), (0, 0)), ("sounds", (1, 1)), ("sounds", (1, 1), (0, 0), 1),
                                   ["silent", (1, 1)], ("silent", (1, 1), ())):
            self.unfit("shape", -1, lets_silence, PAIR, 6, thing)

    def test_factor(self):
        for thing in NO_POLYNOMIALS:
            self.unfit("factor", -1, lets_silence, PAIR, 6, ("silent", thing))
            self.unfit("factor", -1, lets_silence, PAIR, 3, ("sounds", thing, (2, 0)))
            self.unfit("factor", -1, lets_silence, PAIR, 3, ("sounds", thing, None))

    def test_rest(self):
        for thing in (True, None, 0, "", (), (2,), (2, 0, 0), (0, 0), [2, 0], (True, 0), (2, False), (2, None), (2, "0")):
            self.unfit("rest", -1, lets_silence, PAIR, 3, ("sounds", (-1, 1), thing))
            self.unfit("rest", -1, lets_silence, PAIR, 3, ("sounds", (7,), thing))
        self.unfit("rest", -1, lets_silence, PAIR, 6, ("sounds", (1, 1), (0, 0)))

    def test_product(self):
        for thing in (("silent", ()), ("silent", (1,)), ("silent", (1, 2)), ("silent", (1, 1, 1)), ("silent", (1,) * 5000),
                      ("sounds", (1, 1), (1, 0)), ("sounds", (), (1, 1)), ("sounds", (-1, 1), (2, 0))):
            self.unfit("product", -1, lets_silence, PAIR, 6, thing)
        for thing in (("silent", (-1, 1)), ("sounds", (-1, 1), (2, 1)), ("sounds", (-1, 1), (0, 2)),
                      ("sounds", (1, 1), (2, 0)), ("sounds", (), (2, 0))):
            self.unfit("product", -1, lets_silence, PAIR, 3, thing)
        self.unfit("product", -1, lets_silence, STEP, 3, ("silent", (1,)))

    def test_only_the_right_paper_is_accepted(self):
        for voice, divisor in ((PAIR, 6), (PAIR, 3), (THIRDS, 3), (STEP, 2), (STEP, 6)):
            wheel = reckon.wheel(divisor)
            for low in itertools.product((-1, 0, 1), repeat=3):
                factor = tuple(reckon.cut(low))
                for rest in itertools.product((-1, 0, 1, 2), repeat=len(wheel) - 1):
                    paper = ("sounds", factor, rest) if any(rest) else ("silent", factor)
                    if paper == right_paper(voice, divisor):
                        self.tells(paper[0] == "silent", lets_silence, voice, divisor, paper)
                    else:
                        self.unfit("product", -1, lets_silence, voice, divisor, paper)

    def test_a_voice_of_noughts(self):
        self.tells(True, lets_silence, (0, 0, 0), 3, ("silent", ()))
        self.unfit("product", -1, lets_silence, (0, 0, 0), 3, ("silent", (1,)))
        self.tells(False, lets_silence, (7,), 1, ("sounds", (), (7,)))


class EvenPapers(BeatTest):
    def check_pair(self, one, other):
        """The paper is of the kind that the product calls for, each part of it right, and the judge agrees."""
        paper = even_paper(one, other)
        self.tells(paper, even_paper, one, other)
        even = len(set(reckon.around(one, other))) == 1
        self.tells(even, lets_even, one, other, paper)
        if even:
            self.assertEqual((paper[0], len(paper)), ("even", 2))
            divisors = reckon.divisors(len(one))[1:]
            self.assertEqual(len(paper[1]), len(divisors))
            for (index, silent), divisor in zip(paper[1], divisors):
                self.same(silent, right_paper((one, other)[index], divisor))
                self.assertEqual(silent[0], "silent")
        else:
            word, divisor, first, second = paper
            self.assertEqual(word, "bar")
            self.assertIn(divisor, reckon.divisors(len(one))[1:])
            self.same((first, second), (right_paper(one, divisor), right_paper(other, divisor)))
            self.assertEqual((first[0], second[0]), ("sounds", "sounds"))

    def test_papers(self):
        chance = a_chance(281)
        for size in (1, 2, 3, 4, 6, 9, 12):
            for _ in range(4):
                self.check_pair(some_voice(chance, size), some_voice(chance, size))
            self.check_pair((1,) * size, some_voice(chance, size))
            self.check_pair((0,) * size, (0,) * size)
        for one, other in itertools.product((PAIR, THIRDS, STEP), repeat=2):
            self.check_pair(one, other)
        self.check_pair((1, 0, 0, 0) * 9, (1, 1, 1, 1) + (0,) * 32)

    def test_other_right_papers(self):
        even = ("even", ((0, silence_paper(STEP, 2)), (1, silence_paper(THIRDS, 3)), (1, silence_paper(THIRDS, 6))))
        self.tells(True, lets_even, STEP, THIRDS, even)
        swapped = tuple((1 - index, paper) for index, paper in even[1])
        self.tells(True, lets_even, THIRDS, STEP, ("even", swapped))
        for divisor in (2, 3):
            bar = ("bar", divisor, silence_paper((1, 0, 0, 0, 0, 0), divisor), silence_paper((3, 1, 0, 0, 0, 0), divisor))
            self.tells(False, lets_even, (1, 0, 0, 0, 0, 0), (3, 1, 0, 0, 0, 0), bar)

    def test_one_beat(self):
        self.tells(("even", ()), even_paper, (3,), (-4,))
        self.tells(True, lets_even, (3,), (-4,), ("even", ()))
        self.unfit("many", -1, lets_even, (3,), (-4,), ("even", ((0, ("silent", ())),)))
        self.unfit("divisor", -1, lets_even, (3,), (-4,), ("bar", 1, ("sounds", (), (3,)), ("sounds", (), (-4,))))

    def test_refused(self):
        for thing in no_voices_of(6):
            self.refused("other", even_paper, STEP, thing)
            self.refused("other", lets_even, STEP, thing, None)
            self.refused("other", lets_even, STEP, thing, ("even", ()))

    def test_shape(self):
        for thing in ODD_THINGS + (("even", None), ("even", []), ("even", "rows"), ("even", (), ()), ("bar", 3),
                                   ("bar", 3, None), ("bar", 3, None, None, None), ["even", ()], ("silent", (1,)),
                                   ["bar", 3, None, None]):
            self.unfit("shape", -1, lets_even, STEP, THIRDS, thing)

    def test_many(self):
        rows = ((0, silence_paper(STEP, 2)), (1, silence_paper(THIRDS, 3)), (1, silence_paper(THIRDS, 6)))
        for wrong in ((), rows[:1], rows[:2], rows + (None,), (None, None), rows + rows):
            self.unfit("many", -1, lets_even, STEP, THIRDS, ("even", wrong))

    def test_rows(self):
        rows = ((0, silence_paper(STEP, 2)), (1, silence_paper(THIRDS, 3)), (1, silence_paper(THIRDS, 6)))
        for k in range(3):
            paper = rows[k][1]
            for wrong in (None, True, 0, (), [], "", (0,), (2, paper), (-1, paper), (True, paper), (False, paper),
                          (None, paper), ("0", paper), list(rows[k]), rows[k] + (None,), ((0,), paper)):
                self.unfit("row", k, lets_even, STEP, THIRDS, ("even", rows[:k] + (wrong,) + rows[k + 1:]))
                self.unfit("row", k, lets_even, STEP, THIRDS, ("even", rows[:k] + (wrong,) * (3 - k)))

    def test_row_papers(self):
        rows = ((0, silence_paper(STEP, 2)), (1, silence_paper(THIRDS, 3)), (1, silence_paper(THIRDS, 6)))
        for k, divisor in enumerate((2, 3, 6)):
            other = 1 - rows[k][0]
            sounding = silence_paper((STEP, THIRDS)[other], divisor)
            self.assertEqual(sounding[0], "sounds")
            for wrong in ((other, rows[k][1]), (other, sounding), (rows[k][0], ("silent", (9,))), (0, None),
                          (rows[k][0], ("silent", [1])), (rows[k][0], ())):
                changed = rows[:k] + (wrong,) + rows[k + 1:]
                self.unfit("paper", k, lets_even, STEP, THIRDS, ("even", changed))
        self.unfit("paper", 0, lets_even, STEP, THIRDS, ("even", ((1, None), None, None)))
        self.unfit("row", 1, lets_even, STEP, THIRDS, ("even", (rows[0], None, (1, None))))

    def test_bar_divisor(self):
        first, second = silence_paper(PAIR, 3), silence_paper(STEP, 3)
        for divisor in NO_SIZES + (1, 4, 5, 12, -3, (3,), "3"):
            self.unfit("divisor", -1, lets_even, PAIR, STEP, ("bar", divisor, first, second))
            self.unfit("divisor", -1, lets_even, PAIR, STEP, ("bar", divisor, None, None))

    def test_bar_papers(self):
        first, second = silence_paper(PAIR, 3), silence_paper(STEP, 3)
        self.tells(False, lets_even, PAIR, STEP, ("bar", 3, first, second))
        for wrong in (None, (), second, ("silent", (1, 1)), ("sounds", (-1, 1), (2, 1)), ("sounds", (-1, 1), (0, 0)),
                      list(first)):
            self.unfit("paper", 0, lets_even, PAIR, STEP, ("bar", 3, wrong, second))
            self.unfit("paper", 0, lets_even, PAIR, STEP, ("bar", 3, wrong, None))
        for wrong in (None, first, ("sounds", (), (1, 2)), ("silent", (1,))):
            self.unfit("paper", 1, lets_even, PAIR, STEP, ("bar", 3, first, wrong))
        silent = silence_paper(PAIR, 6)
        self.unfit("paper", 0, lets_even, PAIR, STEP, ("bar", 6, silent, silence_paper(STEP, 6)))
        self.unfit("paper", 1, lets_even, STEP, PAIR, ("bar", 6, silence_paper(STEP, 6), silent))


if __name__ == "__main__":
    unittest.main()
