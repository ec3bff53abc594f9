"""A live score that the tests keep themselves, beat by beat."""

from tests import reckon
from tests.base import some_voice

NAMES = ("a", "b", "c", "dd", "eeeeeeee")


class Plain:
    """The voices of a score by their names, its events, its notes and how many operations it was told."""

    def __init__(self, size):
        self.size, self.voices, self.events, self.notes, self.calls = size, {}, [], {}, 0

    def reason(self, event):
        """Why the event, one by form unless None is told, is refused."""
        word, name, *more = event
        if word == "enter" and len(more[0]) != self.size:
            return "shape"
        if len(self.events) == 40:
            return "full"
        if (name in self.voices) == (word == "enter"):
            return "name"
        if word == "play" and more[0] not in self.voices:
            return "other"
        if word == "stretch" and self.size > 1 and reckon.common(more[0], self.size) != 1:
            return "apart"
        loudest = {"enter": lambda: more[0], "play": lambda: reckon.around(self.voices[name], self.voices[more[0]])}
        if word in loudest and any(abs(weight) > 1000 for weight in loudest[word]()):
            return "loud"
        return None

    def happen(self, event):
        """Lets a possible event happen."""
        word, name, *more = event
        if word == "leave":
            del self.voices[name]
        elif word == "enter":
            self.voices[name] = more[0]
        elif word == "play":
            self.voices[name] = reckon.around(self.voices[name], self.voices[more[0]])
        else:
            weights = [0] * self.size
            for beat, weight in enumerate(self.voices[name]):
                weights[(beat + more[0] if word == "turn" else beat * more[0]) % self.size] = weight
            self.voices[name] = tuple(weights)
        self.events.append(event)

    def behind(self, events):
        """A score behind these events alone, all of which are possible."""
        other = Plain(self.size)
        for event in events:
            other.happen(event)
        return other

    def undo(self):
        event = self.events[-1]
        self.voices = self.behind(self.events[:-1]).voices
        self.events = self.events[:-1]
        self.notes = {name: many for name, many in self.notes.items() if many <= len(self.events)}
        return event

    def lacking(self):
        silent = {d for voice in self.voices.values() for d in reckon.silences(voice)}
        return tuple(d for d in reckon.divisors(self.size) if d > 1 and d not in silent)

    def total(self):
        return tuple(sum(voice[beat] for voice in self.voices.values()) for beat in range(self.size))

    def product(self):
        reached = (1,) + (0,) * (self.size - 1)
        for voice in self.voices.values():
            reached = reckon.around(reached, voice)
        return reached

    def told(self):
        """What the properties of a live score and its calls without parameters tell."""
        voices = tuple(sorted(self.voices.items()))
        return (
            self.size, voices, self.total(), self.product(), reckon.silences(self.total()), self.lacking(),
            len(set(self.product())) == 1, [self.row(name, voice) for name, voice in voices],
            (("score", self.size), *self.events), tuple(sorted(self.notes)), (self.calls, self.calls),
            len(self.events), list(self.events), " / ".join(line(event) for event in self.events) or "-",
        )

    def row(self, name, voice):
        silences = " ".join(str(d) for d in reckon.silences(voice)) or "-"
        return f"{name} {' '.join(str(weight) for weight in voice)} : {silences}"


def line(event):
    """An event by form as a line."""
    words = []
    for each in event:
        words += [str(weight) for weight in each] if isinstance(each, tuple) else [str(each)]
    return " ".join(words)


def told_by(live):
    """What the properties of a live score and its calls without parameters tell."""
    return (
        live.size_now, live.voices_now, live.sum_now, live.product_now, live.silences_now, live.lacking_now,
        live.is_even(), live.table(), live.log(), live.notes(), live.tally(), len(live), list(live), str(live),
    )


def some_event(chance, size, names=NAMES):
    """An event by form, drawn by chance: most of them possible at some time."""
    name, other = chance.choice(names), chance.choice(names)
    k = chance.choice((0, 1, -1, 2, 5, 7, -3, size, 10 ** 30 + 1))
    low, high = chance.choice(((0, 1), (0, 1), (-2, 2), (-1000, 1001)))
    voice = some_voice(chance, chance.choice((size,) * 9 + (size + 1,)), low, high)
    if chance.random() < 0.3 and len(voice) == size:
        divisor = chance.choice(reckon.divisors(size))
        wheel = reckon.wheel(divisor)
        voice = reckon.around(wheel + (0,) * (size - len(wheel)), some_voice(chance, size, 0, 1)) if len(wheel) <= size else voice
    return chance.choice((
        ("enter", name, voice), ("enter", name, voice), ("leave", name), ("turn", name, k), ("stretch", name, k),
        ("play", name, other),
    ))
