"""Small machines of which the tests go through all states."""

import itertools
from functools import lru_cache

from tests import reckon
from tests.base import a_chance

SIZES = {2: (1, 2, 3, 4, 5, 6, 7, 8), 3: (1, 2, 3, 4, 5), 5: (1, 2, 3), 7: (1, 2), 11: (1, 2), 13: (1, 2)}


class Wheel:
    """All states of a machine, each with the next one, and with its tail and round."""

    def __init__(self, voice, prime):
        self.voice, self.prime = voice, prime
        self.states = list(itertools.product(range(prime), repeat=len(voice)))
        self.next = {state: reckon.step(voice, prime, state) for state in self.states}
        self.ahead = {state: [] for state in self.states}
        for state in self.states:
            self.ahead[self.next[state]].append(state)
        self.tails, self.rounds = {}, {}
        for state in self.states:
            self.follow(state)

    def follow(self, state):
        """Goes on from the state to one that is known, or that comes again."""
        path, places = [], {}
        while state not in self.tails and state not in places:
            places[state] = len(path)
            path.append(state)
            state = self.next[state]
        if state in places:
            many = len(path) - places[state]
            for each in path[places[state]:]:
                self.tails[each], self.rounds[each] = 0, many
            path = path[:places[state]]
        for each in reversed(path):
            follower = self.next[each]
            self.tails[each], self.rounds[each] = self.tails[follower] + 1, self.rounds[follower]

    def dying(self):
        """How many states come to that of noughts."""
        noughts = (0,) * len(self.voice)
        on_rounds = [state for state in self.states if self.tails[state] == 0]
        # All states on rounds come to noughts only from noughts itself.
        many, layer = 0, [noughts]
        while layer:
            many += len(layer)
            layer = [state for each in layer for state in self.ahead[each] if state != noughts]
        assert noughts in on_rounds
        return many

    def some(self, chance, many=24):
        """Some of the states, all if they are few."""
        return self.states if len(self.states) <= many else chance.sample(self.states, many)


def some_voices(size, prime, chance):
    """Voices of each kind: noughts, all alike, one stroke, neighbours, multiples of the prime, and some by chance."""
    voices = [(0,) * size, (1,) * size, (-prime,) * size, (0,) * (size - 1) + (1,), (prime + 1, -prime - 1, 0, 0)[:size]]
    voices += [tuple(chance.randint(-1000, 1000) for _ in range(size)) for _ in range(2)]
    voices += [tuple(chance.randint(0, prime - 1) for _ in range(size)) for _ in range(2)]
    return [voice + (0,) * (size - len(voice)) for voice in voices]


@lru_cache(maxsize=None)
def wheels():
    """Wheels of machines of all small sizes and primes."""
    chance = a_chance(740)
    return [Wheel(voice, prime) for prime, sizes in SIZES.items() for size in sizes
            for voice in some_voices(size, prime, chance)]
