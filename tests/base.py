"""What the tests share: strict comparison, and errors with their fields."""

import random
import unittest
from fractions import Fraction

from silentbeats.errors import InvalidPaper, InvalidText, NotUsable
from silentbeats.silences import silent_voice
from tests import reckon

PAIR = (1, 0, 0, 1, 0, 0)
THIRDS = (1, 0, 1, 0, 1, 0)
STEP = (1, 1, 0, 0, 0, 0)
ALL = (1, 1, 1, 1, 1, 1)
PATTERN = (0, 1, 4, 5)

NO_INTEGERS = (True, False, None, "", "1", "voice", (), (1,), [], [1], ((),), ((1, 2),))
NO_NUMBERS = NO_INTEGERS + (-1, -(10 ** 59))
NO_SIZES = NO_NUMBERS + (0,)
NO_VOICES = (
    True, False, None, 0, 1, "", "1", (), [], [1], [1, 0], (True,), (1, False), (0, None), ("1",), ((1,),), ([1],), (1, ()),
)

NO_PRIMES = NO_NUMBERS + (0, 1, 4, 6, 8, 9, 15, 25, 49, 91, 169, 10007)

NO_ENTRIES_OF_TWO = (
    True, None, 0, 1, "", "12", (), (1,), (1, 2, 3), [1, 2], (1, True), (False, 1), (1, None), (1, "2"), (1, (2, 4)),
    (1, (1, 0)), (1, (1, -2)), (1, (True, 2)), (1, [1, 2]), (1, (1, 2, 3)), (1, (1,)), (1, ()), ((1, 2),),
)


def shown(thing):
    """How a value looks, with all that an object of the package keeps."""
    if isinstance(thing, (tuple, list)):
        return f"{type(thing).__name__}({', '.join([shown(each) for each in thing])})"
    if isinstance(thing, dict):
        return f"{{{', '.join([f'{shown(key)}: {shown(value)}' for key, value in thing.items()])}}}"
    if type(thing).__module__.startswith(("silentbeats.", "tests.")):
        return f"{type(thing).__name__} with {shown(vars(thing))}"
    return repr(thing)


def no_states(size, prime):
    """Values that are no state of a machine of this size and prime."""
    return (
        None, True, False, 0, 1, "", "0" * size, (), [], [0] * size, (0,) * (size + 1), (0,) * (size - 1) + (prime,),
        (-1,) + (0,) * (size - 1), (True,) * size, (False,) * size, (None,) * size, ("0",) * size, ((0,),) * size,
        (10 ** 59,) + (0,) * (size - 1), ((0,) * size,),
    )


def no_voices_of(size):
    """Values that are no voice of this size."""
    return NO_VOICES + ((0,) * (size + 1), (1,) * (size + 2), (1,) * (size - 1), (True,) * size, [1] * size)


class BeatTest(unittest.TestCase):
    """A test in which True is not 1, and in which a call that is repeated has to tell the same."""

    def same(self, found, expected):
        self.assertEqual(repr(found), repr(expected))

    def tells(self, expected, call, *args, **named):
        before = shown((args, named))
        found = call(*args, **named)
        self.same(found, expected)
        self.same(call(*args, **named), expected)
        self.assertEqual(shown((args, named)), before)

    def fails(self, kind, fields, call, *args, **named):
        before = shown((args, named))
        for _ in range(2):
            with self.assertRaises(kind, msg=repr((args, named))) as caught:
                call(*args, **named)
            self.assertIs(type(caught.exception), kind)
            self.same(vars(caught.exception), fields)
        self.assertEqual(shown((args, named)), before)

    def refused(self, word, call, *args, at=-1):
        self.fails(NotUsable, {"word": word, "at": at}, call, *args)

    def unfit(self, word, at, call, *args):
        self.fails(InvalidPaper, {"word": word, "at": at}, call, *args)

    def unread(self, field, call, text):
        self.fails(InvalidText, {"line": 0, "field": field}, call, text)


def some_voice(chance, size, low=-3, high=3):
    """A voice of this size with weights drawn by chance."""
    return tuple(chance.randint(low, high) for _ in range(size))


def some_room(chance, size):
    """A voice that is silent at some divisors, drawn by chance."""
    divisors = tuple(d for d in reckon.divisors(size) if chance.random() < 0.4)
    return reckon.around(silent_voice(size, divisors), some_voice(chance, size))


def some_entries(chance, size):
    """Entries, integers and quotients mixed, drawn by chance."""
    drawn = [(chance.randint(-9, 9), chance.choice((0, 1, 2, 3, 8))) for _ in range(size)]
    return tuple(top if bottom == 0 else reckon.pairs([Fraction(top, bottom)])[0] for top, bottom in drawn)


def a_chance(seed):
    """A source of draws that gives the same ones in each run."""
    return random.Random(seed)
