"""Live scores: voices by names that events bring, change and take away."""

from silentbeats.backs import told_back
from silentbeats.checks import need
from silentbeats.errors import InvalidEvent, NothingToUndo
from silentbeats.evens import fills_evenly, is_even
from silentbeats.eventwords import lines_of, slashed, spaced
from silentbeats.kinds import is_name
from silentbeats.liveevents import by_names, is_event, is_score_size, reason_against, voices_behind
from silentbeats.numbers import divisors_of
from silentbeats.rooms import can_make
from silentbeats.silences import silences_of
from silentbeats.voices import added, product_of, total_of, voice_of


def lacking_from(size, voices):
    """The set of the divisors of the size above 1 at which none of these voices is silent."""
    silent = [divisor for _, voice in voices for divisor in silences_of(voice)]
    return tuple([divisor for divisor in divisors_of(size)[1:] if divisor not in silent])


class LiveScore:
    """A score on a clock of this size, at first without voices and events."""

    MOST = 40

    def __init__(self, size):
        need(is_score_size(size), "size")
        self._size = size
        self._events = ()
        # The voices ahead of each event, and behind the last one.
        self._states = ((),)
        self._notes = ()
        self._calls = 0

    @property
    def size_now(self):
        """How many beats the clock has."""
        return self._size

    @property
    def voices_now(self):
        """The set of the pairs (name, voice)."""
        return self._states[-1]

    @property
    def sum_now(self):
        """The sum of all voices."""
        reached = (0,) * self._size
        for _, voice in self._states[-1]:
            reached = added(reached, voice)
        return reached

    @property
    def product_now(self):
        """The product of all voices, with 1 at beat 0 alone without any."""
        reached = voice_of(self._size, (0,))
        for _, voice in self._states[-1]:
            reached = product_of(reached, voice)
        return reached

    @property
    def silences_now(self):
        """The silences of the sum of all voices."""
        return silences_of(self.sum_now)

    @property
    def lacking_now(self):
        """The set of the divisors of the size above 1 at which no voice is silent."""
        return lacking_from(self._size, self._states[-1])

    def _reason_behind(self, states, event):
        return reason_against(self._size, len(states) > self.MOST, states[-1], event)

    def _states_behind(self, events):
        states = self._states
        for event in events:
            reason = self._reason_behind(states, event)
            if reason is not None:
                raise InvalidEvent(event, reason)
            states = states + (voices_behind(states[-1], event),)
        return states

    def happen(self, *events):
        """Lets all these events happen in order, or none of them; no operation is counted."""
        self._states = self._states_behind(events)
        self._events = self._events + events

    def go(self, event):
        """Lets the event happen, and tells what is lacking then."""
        self._calls = self._calls + 1
        self.happen(event)
        return self.lacking_now

    def enter(self, name, voice):
        """Lets the voice enter by the name."""
        return self.go(("enter", name, voice))

    def leave(self, name):
        """Lets the voice of the name leave."""
        return self.go(("leave", name))

    def turn(self, name, k):
        """Lets the voice of the name be turned by k."""
        return self.go(("turn", name, k))

    def stretch(self, name, k):
        """Lets the voice of the name be stretched by k."""
        return self.go(("stretch", name, k))

    def play(self, name, other):
        """Lets the voice of the name become its product with that of other."""
        return self.go(("play", name, other))

    def undo(self):
        """Takes back the last event, and tells it."""
        self._calls = self._calls + 1
        if self._events == ():
            raise NothingToUndo(0)
        event = self._events[-1]
        self._events = self._events[:-1]
        self._states = self._states[:-1]
        self._notes = tuple([(name, many) for name, many in self._notes if many <= len(self._events)])
        return event

    def do_all(self, *events, keep=False):
        """Lets these events happen in order, and tells how many; a refused one takes back all, or, to keep, none."""
        self._calls = self._calls + 1
        need(isinstance(keep, bool), "keep")
        if keep:
            for event in events:
                self.happen(event)
        else:
            self.happen(*events)
        return len(events)

    def barred(self, event):
        """The reason for which the event is refused now, or None."""
        return self._reason_behind(self._states, event)

    def tried(self, *events):
        """What the voices, and what is lacking, would be behind these events."""
        voices = self._states_behind(events)[-1]
        return (voices, lacking_from(self._size, voices))

    def tally(self):
        """How many operations were started, and finished."""
        # An operation that raises is finished, too, so that both are ever the same.
        return (self._calls, self._calls)

    def note(self, name):
        """Gives this moment the name, and tells how many events there are."""
        need(is_name(name) and name not in self.notes(), "name")
        self._notes = self._notes + ((name, len(self._events)),)
        return len(self._events)

    def notes(self):
        """The set of the names of moments."""
        return tuple(sorted([name for name, _ in self._notes]))

    def since(self, name):
        """The events after the moment of this name."""
        need(name in self.notes(), "name")
        many = {each: moment for each, moment in self._notes}[name]
        return self._events[many:]

    def log(self):
        """The score with its size, and the events."""
        return (("score", self._size),) + self._events

    def _is_there(self, name):
        return is_name(name) and name in by_names(self._states[-1])

    def _voice_of(self, name):
        return by_names(self._states[-1])[name]

    def is_even(self):
        """Whether the product of all voices is even."""
        return is_even(self.product_now)

    def through(self, room, name):
        """What is heard of the voice of the name through that of the room."""
        need(self._is_there(room), "room")
        need(self._is_there(name), "name")
        return product_of(self._voice_of(room), self._voice_of(name))

    def back_through(self, room, name):
        """The voice of which that of the name is what is heard through that of the room."""
        need(self._is_there(room), "room")
        need(self._is_there(name), "name")
        return told_back(self._voice_of(room), self._voice_of(name))

    def makers(self, name):
        """The set of the other names whose voices make that of the name."""
        need(self._is_there(name), "name")
        voice = self._voice_of(name)
        return tuple([each for each, one in self._states[-1] if each != name and can_make(one, voice)])

    def fillers(self, name):
        """The set of the names, its own perhaps, whose voices fill evenly with that of the name."""
        need(self._is_there(name), "name")
        voice = self._voice_of(name)
        return tuple([each for each, one in self._states[-1] if fills_evenly(one, voice)])

    def table(self):
        """A string for each voice: its name, its weights and its silences."""
        return [f"{name} {spaced(voice)} : {spaced(silences_of(voice))}" for name, voice in self._states[-1]]

    def __getitem__(self, at):
        need(self._is_there(at), "name")
        voice = self._voice_of(at)
        return (voice, total_of(voice), silences_of(voice))

    def __contains__(self, x):
        return is_event(x) and x in self._events

    def __len__(self):
        return len(self._events)

    def __iter__(self):
        return iter(self._events)

    def __str__(self):
        return str(slashed(lines_of(self._events)))

    def __eq__(self, other):
        return isinstance(other, LiveScore) and self._size == other._size and self._events == other._events
