"""Clocks of three primes: plain heaps that are found coset by coset, or closed walks that bar them."""

from silentbeats.primes import primes_in
from silentbeats.signed import coset_step


def coset_weights(voice, primes, coset):
    """The weights a(i, j, k) of the coset by the rests (i, j, k) that its beats leave by the three primes."""
    p, q, r = primes
    step = coset_step(len(voice), primes)
    return {(y % p, y % q, y % r): voice[coset + step * y] for y in range(p * q * r)}


def least_weights(weights, primes):
    """The least m(i, j) of all a(i, j, k) by (i, j)."""
    p, q, r = primes
    return {(i, j): min([weights[(i, j, k)] for k in range(r)]) for i in range(p) for j in range(q)}


def walk_sum(voice, primes, coset, walk):
    """The sum of m(i', j) less a(i', j, 0) - a(i, j, 0) over all pairs (i, j) of the walk: below 0, it bars."""
    weights = coset_weights(voice, primes, coset)
    least = least_weights(weights, primes)
    reached = 0
    for at, (i, j) in enumerate(walk):
        following = walk[(at + 1) % len(walk)][0]
        reached = reached + least[(following, j)] - weights[(following, j, 0)] + weights[(i, j, 0)]
    return reached


def cheapest_steps(weights, primes):
    """For each i and i': the least that a pair (i, j) ahead of i' adds to walk_sum, and that j."""
    p, q, _ = primes
    least = least_weights(weights, primes)
    return {
        (i, following): min([
            (least[(following, j)] - weights[(following, j, 0)] + weights[(i, j, 0)], j) for j in range(q)
        ])
        for i in range(p) for following in range(p)
    }


def heights_or_walk(weights, primes):
    """A height for each i, that of i' and what a pair ahead of it adds being no less; or None, and a walk that bars."""
    many = primes[0]
    steps = cheapest_steps(weights, primes)
    heights = [0 for _ in range(many)]
    ahead = [0 for _ in range(many)]
    for _ in range(many):
        lowered = -1
        for i, following in steps:
            reach = heights[following] + steps[(i, following)][0]
            if reach < heights[i]:
                heights[i] = reach
                ahead[i] = following
                lowered = i
    # Without a walk that bars, no way down has more steps than there are heights: the last round lowers none.
    return (heights, None) if lowered == -1 else (None, walk_back(steps, ahead, lowered))


def walk_back(steps, ahead, start):
    """The closed walk that one runs into from start, each i being followed by the one ahead of it."""
    at = start
    for _ in ahead:
        at = ahead[at]
    walk = [(at, steps[(at, ahead[at])][1])]
    at = ahead[at]
    while at != walk[0][0]:
        walk.append((at, steps[(at, ahead[at])][1]))
        at = ahead[at]
    return tuple(walk)


def cross_manys(weights, primes, heights):
    """How many times to take the polygon of the greatest prime through each a(i, j, 0), by (i, j)."""
    p, q, _ = primes
    lowest = [min([weights[(i, j, 0)] - heights[i] for i in range(p)]) for j in range(q)]
    return {(i, j): weights[(i, j, 0)] - heights[i] - lowest[j] for i in range(p) for j in range(q)}


def crossed_rows(voice, primes):
    """Rows of the greatest prime without which the other two bring the voice to 0; None if a walk bars it."""
    size = len(voice)
    p, q, r = primes
    step = coset_step(size, primes)
    rows = []
    for coset in range(step):
        weights = coset_weights(voice, primes, coset)
        heights, _ = heights_or_walk(weights, primes)
        if heights is None:
            return None
        manys = cross_manys(weights, primes, heights)
        for y in range(0, p * q * r, r):
            many = manys[(y % p, y % q)]
            if many > 0:
                rows.append((r, (coset + step * y) % (size // r), many))
    return rows


def barring(voice):
    """The first coset in which a walk bars this voice, without weights below 0 and silent at its size, and the walk."""
    primes = primes_in(len(voice))
    for coset in range(coset_step(len(voice), primes)):
        _, walk = heights_or_walk(coset_weights(voice, primes, coset), primes)
        if walk is not None:
            return (coset, walk)
    return None
