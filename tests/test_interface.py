"""The names, the arguments and the files of the interface, as the document lists them."""

import ast
import importlib
import inspect
import pathlib
import unittest

PACKAGE = pathlib.Path(__file__).parent.parent / "silentbeats"

FUNCTIONS = {
    "kinds": (
        "is_integer(thing)", "is_number(thing)", "is_prime(thing)", "is_prime_power(thing)", "is_voice(thing)",
        "is_strokes(thing)", "is_beats(size, thing)", "is_quotient(thing)", "is_pattern(thing)",
    ),
    "numbers": ("primes_of(number)", "divisors_of(number)", "totient_of(number)", "power_parts(number)"),
    "quotients": (
        "quotient(top, bottom)", "sums(*quotients)", "products(*quotients)", "less(one, other)", "over(one, other)",
    ),
    "polynomials": (
        "polynomial_of(voice)", "times(one, other)", "plus(one, other)", "rest_by(one, divisor)",
        "exact_by(one, divisor)", "value_at(one, number)", "cyclotomic(number)",
    ),
    "voices": (
        "voice_of(size, beats)", "beats_of(voice)", "total_of(voice)", "ones_of(size)", "added(one, other)",
        "multiplied(voice, k)", "product_of(one, other)", "turned(voice, k)", "mirrored(voice)",
        "power_of(voice, many)",
    ),
    "voicechecker": ("lets_voice(thing)",),
    "voicetexts": ("voice_line(voice)", "quotients_line(quotients)"),
    "voicereadings": ("read_voice(text)", "read_quotients(text)"),
    "silences": (
        "silences_of(voice)", "is_silent(voice, divisor)", "rest_at(voice, divisor)", "part_at(voice, divisor)",
        "alike_silent(one, other)", "silent_rank(size, divisors)", "silent_basis(size, divisors)",
        "silent_from(size, divisors, weights)", "silent_voice(size, divisors)",
    ),
    "evens": ("is_even(voice)", "fills_evenly(one, other)", "even_weight(one, other)", "bar_at(one, other)"),
    "silencepapers": ("silence_paper(voice, divisor)", "even_paper(one, other)"),
    "silencechecker": ("lets_silence(voice, divisor, thing)", "lets_even(one, other, thing)"),
    "folds": (
        "folded(voice, size)", "spread(voice, size)", "repeated(voice, size)", "period_of(voice)",
        "stretched(voice, k)", "stretches_of(voice)",
    ),
    "joins": ("as_table(voice, size)", "from_table(table)", "joined(one, other)"),
    "rooms": (
        "can_make(one, other)", "bar_of(one, other)", "entries_for(one, other)", "heard(one, entries)",
        "deaf_rows(one)",
    ),
    "backs": ("is_open(one)", "back_of(one)", "told_back(one, sound)"),
    "wholes": (
        "least_multiple(one, other)", "whole_entries(one, other)", "whole_bar(one, other)", "room_index(one)",
    ),
    "roompapers": ("made_paper(one, other)", "whole_paper(one, other)"),
    "roomchecker": ("lets_made(one, other, thing)", "lets_whole(one, other, thing)"),
    "polygons": (
        "polygon(size, prime, first)", "polygons_of(size)", "heap_voice(size, rows)", "is_sum(size, thing, voice)",
    ),
    "signed": ("signed_heap(voice)",),
    "heaps": (
        "heap_of(voice)", "is_heap(voice)", "least_heap(voice)", "heap_count(voice)", "heaps_at(voice, divisor)",
    ),
    "bars": ("bar_voice(size)", "stroke_counts(size, most)", "stroke_heaps(size)"),
    "heappapers": ("heap_paper(voice)",),
    "heapchecker": ("lets_heap(voice, thing)",),
    "signs": ("signs_of(pattern)", "holds_first(pattern)", "holds_second(pattern)", "fill_word(pattern)"),
    "linefills": (
        "clock_of(pattern)", "line_entries(pattern)", "fills_with(pattern, size, entries)",
        "clock_entries(size, pattern)",
    ),
    "morefills": (
        "signs_shared(pattern, size, entries)", "lean_fill(pattern, size, entries)", "all_fills(size, pattern)",
    ),
    "fillpapers": ("fill_paper(pattern)",),
    "fillchecker": ("lets_fill(pattern, thing)",),
    "echoes": (
        "echo_of(voice)", "crossed(one, other)", "same_echo(one, other)", "mixed_pair(one, other)",
        "intervals_of(voice)", "the_others(voice)",
    ),
    "kin": ("least_kin(voice)", "kin_count(voice)", "kin_step(one, other)"),
    "twins": (
        "strokes_with(echo)", "twins_of(voice)", "kin_classes(size, many)", "flat_pair(voice)",
        "flat_strokes(size, many)",
    ),
    "kinpapers": ("kin_paper(one, other)",),
    "kinchecker": ("lets_kin(one, other, thing)",),
    "machines": (
        "is_state(size, prime, thing)", "step_of(voice, prime, state)", "after(voice, prime, state, many)",
        "common_factor(voice, prime)", "dying_rank(voice, prime)", "goes_back(voice, prime)",
        "back_voice(voice, prime)", "before(voice, prime, state)", "before_count(voice, prime, state)",
        "garden(voice, prime)",
    ),
    "factors": ("factors_of(size, prime)", "state_parts(size, prime, state)", "state_from(size, prime, parts)"),
    "rounds": (
        "tail_of(voice, prime)", "round_of(voice, prime)", "state_tail(voice, prime, state)",
        "state_round(voice, prime, state)", "rounds_of(voice, prime)",
    ),
    "machinepapers": ("back_paper(voice, prime)",),
    "machinechecker": ("lets_back(voice, prime, thing)",),
    "liveevents": ("is_event(thing)",),
    "replaying": ("is_log(thing)", "replayed(log)"),
    "eventtexts": ("event_line(event)", "log_lines(log)"),
    "eventreadings": ("read_event(text)", "read_log(lines)"),
}

CLASSES = {
    ("errors", "InvalidPaper"): ("__init__(self, word, at)",),
    ("errors", "NotUsable"): ("__init__(self, word, at)",),
    ("errors", "Unmade"): ("__init__(self, divisor)",),
    ("errors", "Unsilent"): ("__init__(self, rest)",),
    ("errors", "Unfilled"): ("__init__(self, reason)",),
    ("errors", "TooMany"): ("__init__(self, many)",),
    ("errors", "InvalidEvent"): ("__init__(self, event, reason)",),
    ("errors", "NothingToUndo"): ("__init__(self, steps)",),
    ("errors", "InvalidText"): ("__init__(self, line, field)",),
    ("errors", "InvalidRow"): ("__init__(self, row)",),
    ("voiceclasses", "Voice"): (
        "__init__(self, *weights)", "of(thing)", "read(text)", "__call__(self, k)", "__getitem__", "__contains__",
        "__len__", "__iter__", "__str__", "__eq__", "__add__", "__sub__", "__mul__", "__neg__", "__invert__",
        "__pow__", "voice_now", "size_now", "total_now", "beats_now",
    ),
    ("voiceclasses", "Strokes"): ("__init__(self, size, *beats)", "__or__", "__and__", "others(self)"),
    ("silenceclasses", "Silences"): (
        "__init__(self, size, divisors)", "of(voice)", "__call__(self, weights)", "lacking(self, voice)",
        "lies_in(self, other)", "__contains__", "__len__", "__iter__", "__and__", "__or__", "__eq__", "size_now",
        "divisors_now", "factor_now",
    ),
    ("roomclasses", "Room"): (
        "__init__(self, voice)", "__call__(self, entries)", "back(self, sound)", "makes(self, thing)", "__iter__",
        "__len__", "__contains__", "__eq__", "voice_now", "silences_now", "index_now",
    ),
    ("roomclasses", "Open"): ("__init__(self, voice)", "back_now"),
    ("heapclasses", "Heap"): (
        "__init__(self, size, *rows)", "of(voice)", "__call__(self, k)", "traded(self, prime, other, first)",
        "__getitem__", "__contains__", "__len__", "__iter__", "__eq__", "__add__", "__sub__", "size_now", "rows_now",
        "voice_now", "is_plain_now", "many_now",
    ),
    ("fillclasses", "Fill"): (
        "__init__(self, pattern, size, entries)", "__call__(self, number)", "shared(self)", "lean(self)",
        "later(self, number)", "wider(self, many)", "exchanged(self)", "__len__", "__iter__", "__contains__", "__eq__",
        "pattern_now", "size_now", "entries_now",
    ),
    ("echoclasses", "Echo"): (
        "__init__(self, voice)", "__getitem__", "__len__", "__iter__", "__contains__", "__eq__", "__mul__",
        "__invert__", "kin_with(self, other)", "voice_now", "echo_now",
    ),
    ("machineclasses", "Machine"): (
        "__init__(self, voice, prime)", "__call__(self, state)", "after(self, state, many)",
        "walk(self, state, many)", "rounds(self)", "__contains__", "__len__", "__eq__", "__mul__", "back(self)",
        "voice_now", "prime_now", "digits_now", "is_back",
    ),
    ("live", "LiveScore"): (
        "__init__(self, size)", "MOST", "go(self, event)", "enter(self, name, voice)", "leave(self, name)",
        "turn(self, name, k)", "stretch(self, name, k)", "play(self, name, other)", "is_even(self)",
        "through(self, room, name)", "back_through(self, room, name)", "makers(self, name)", "fillers(self, name)",
        "table(self)", "barred(self, event)", "tried(self, *events)", "undo(self)",
        "do_all(self, *events, keep=False)", "tally(self)", "note(self, name)", "since(self, name)", "notes(self)",
        "log(self)", "__getitem__", "__contains__", "__len__", "__iter__", "__str__", "__eq__", "size_now",
        "voices_now", "sum_now", "product_now", "silences_now", "lacking_now",
    ),
    ("desk", "Desk"): ("__init__(self)", "say(self, row)", "counts(self)"),
}


def defined_in(module):
    """The names of the functions and classes whose definitions stand in this file."""
    tree = ast.parse((PACKAGE / f"{module}.py").read_text(encoding="ascii"))
    return [node.name for node in tree.body if isinstance(node, (ast.FunctionDef, ast.ClassDef))]


class Interface(unittest.TestCase):
    def test_functions(self):
        for module, calls in FUNCTIONS.items():
            for call in calls:
                name, rest = call.split("(", 1)
                with self.subTest(module=module, call=call):
                    self.assertIn(name, defined_in(module))
                    function = getattr(importlib.import_module(f"silentbeats.{module}"), name)
                    self.assertEqual(str(inspect.signature(function)), f"({rest}")

    def test_classes(self):
        for (module, name), members in CLASSES.items():
            self.assertIn(name, defined_in(module))
            found = getattr(importlib.import_module(f"silentbeats.{module}"), name)
            for member in members:
                with self.subTest(module=module, name=name, member=member):
                    self.check_member(found, member)

    def check_member(self, found, member):
        name, *rest = member.split("(", 1)
        self.assertIn(name, vars(found))
        if rest:
            self.assertEqual(str(inspect.signature(getattr(found, name))), f"({rest[0]}")
        if name.endswith("_now") or name == "is_back":
            self.assertIsInstance(vars(found)[name], property)

    def test_named_arguments(self):
        """Each function takes its arguments by the names that the document gives them."""
        voices = importlib.import_module("silentbeats.voices")
        silences = importlib.import_module("silentbeats.silences")
        rooms = importlib.import_module("silentbeats.rooms")
        classes = importlib.import_module("silentbeats.voiceclasses")
        self.assertEqual(voices.voice_of(beats=(1,), size=2), (0, 1))
        self.assertEqual(voices.added(other=(1, 2), one=(3, 4)), (4, 6))
        self.assertEqual(voices.turned(k=1, voice=(1, 2, 3)), (3, 1, 2))
        self.assertEqual(silences.silent_from(weights=(1,), divisors=(2,), size=2), (1, 1))
        self.assertEqual(rooms.heard(entries=(1, 0), one=(2, 1)), ((2, 1), (1, 1)))
        self.assertEqual(classes.Strokes(size=2).voice_now, (0, 0))
        self.assertEqual(classes.Voice(1, 2, 3)(k=1).voice_now, (3, 1, 2))
        self.assertEqual(classes.Voice.of(thing=(1, 2)).voice_now, (1, 2))


if __name__ == "__main__":
    unittest.main()
