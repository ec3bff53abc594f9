"""How long a machine goes on until its states are on rounds, and how long these rounds are."""

from math import lcm

from silentbeats.factors import factors_of
from silentbeats.machines import need_prime, need_state, power_of_prime
from silentbeats.numbers import divisors_of
from silentbeats.polynomials import cyclotomic, trimmed, value_at
from silentbeats.primes import primes_in
from silentbeats.residues import power_of_factor, power_rest, reduced, times_in


def met_factors(voice, prime):
    """The triples of each factor that divides the voice, of how often it is one, and of how often it divides."""
    one = reduced(voice, prime)
    triples = [(factor, often, times_in(factor, one, often, prime)) for factor, often in factors_of(len(voice), prime)]
    return [triple for triple in triples if triple[2] > 0]


def other_factors(voice, prime):
    """The pairs of each factor that does not divide the voice, and of how often it is one."""
    one = reduced(voice, prime)
    return [(factor, often) for factor, often in factors_of(len(voice), prime) if times_in(factor, one, 1, prime) == 0]


def rounded_up(one, other):
    """One number divided by another, rounded up."""
    return -(-one // other)


def tail_of(voice, prime):
    """The least number of steps behind which each state is on a round."""
    need_prime(prime)
    return max([rounded_up(often, many) for _, often, many in met_factors(voice, prime)], default=0)


def state_tail(voice, prime, state):
    """The least number of steps that lead from the state to one on a round."""
    need_state(voice, prime, state)
    one = trimmed(state)
    return max([
        rounded_up(often - times_in(factor, one, often, prime), many)
        for factor, often, many in met_factors(voice, prime)
    ], default=0)


def primes_of_round(degree, prime):
    """The primes that divide the prime to the power of the degree, less 1."""
    # The parts C_d of x ** degree - 1 are far less than it, and so are soon divided.
    values = [value_at(cyclotomic(divisor), prime) for divisor in divisors_of(degree)]
    return sorted({each for value in values for each in primes_in(value)})


def steps_by(voice, factor, often, prime):
    """The least number of steps, from 1 on, that lead each part by this power of another factor to itself."""
    if often == 0:
        return 1
    one = reduced(voice, prime)
    degree = len(factor) - 1
    by = power_of_factor(factor, often, prime)
    many = power_of_prime(prime, degree) - 1
    reach = 1
    while reach < often:
        reach = reach * prime
    # So many steps do, and the least number divides each that does.
    many = many * reach
    for each in primes_of_round(degree, prime) + [prime]:
        while many % each == 0 and power_rest(one, many // each, by, prime) == (1,):
            many = many // each
    return many


def round_of(voice, prime):
    """The least number of steps, from 1 on, that lead each state on a round to itself."""
    need_prime(prime)
    many = 1
    for factor, often in other_factors(voice, prime):
        many = lcm(many, steps_by(voice, factor, often, prime))
    return many


def state_round(voice, prime, state):
    """The length of the round to which steps lead from the state."""
    need_state(voice, prime, state)
    one = trimmed(state)
    many = 1
    for factor, often in other_factors(voice, prime):
        left = often - times_in(factor, one, often, prime)
        many = lcm(many, steps_by(voice, factor, left, prime))
    return many


def part_counts(voice, factor, often, prime):
    """How many parts by this power of another factor come to themselves first behind so many steps, by these."""
    degree = len(factor) - 1
    counts = {1: 1}
    for left in range(1, often + 1):
        # These parts the factor divides so often that just this power of it is left to go round.
        parts = power_of_prime(prime, degree * left) - power_of_prime(prime, degree * (left - 1))
        steps = steps_by(voice, factor, left, prime)
        counts[steps] = counts.get(steps, 0) + parts
    return counts


def joint_counts(counts, more):
    """The counts of the pairs of a part of one and a part of the other."""
    both = {}
    for one in counts:
        for other in more:
            steps = lcm(one, other)
            both[steps] = both.get(steps, 0) + counts[one] * more[other]
    return both


def rounds_of(voice, prime):
    """The set of the pairs of each length of a round, and of how many rounds have it."""
    need_prime(prime)
    counts = {1: 1}
    for factor, often in other_factors(voice, prime):
        counts = joint_counts(counts, part_counts(voice, factor, often, prime))
    return tuple(sorted([(steps, counts[steps] // steps) for steps in counts]))
