"""Subsidies that make up for the losses of moves, and the cheapest states to move into."""

from movedyears.carrying import Carry
from movedyears.errors import Endless
from movedyears.longest import greatest_sums
from movedyears.losses import NEVER, greatest_loss, losses_from
from movedyears.pairs import Pairs, left_from


def subsidies(machine, other, carry):
    """Return the least subsidies by states; Endless if a loss grows without end."""
    losses = losses_from(machine, other, carry)
    if None in losses:
        raise Endless()
    return [0 if one == NEVER else max(0, one) for one in losses]


def flat_subsidy(machine, other, carry):
    """Return the greatest one of the least subsidies; Endless if a loss grows without end."""
    return max(subsidies(machine, other, carry))


def subsidized(carry, sums):
    """Return the carry whose costs are lessened by sums, by states."""
    return Carry(carry.to, [cost - one for cost, one in zip(carry.cost, sums)])


def is_free(machine, other, carry):
    """Return whether the greatest loss of a carry is at most 0."""
    greatest = greatest_loss(machine, other, carry)
    return greatest is not None and greatest <= 0


def cheapest_of(sums):
    """Return the first place of the least sum, or None if all grow without end."""
    least = min([one for one in sums if one is not None], default=None)
    return None if least is None else sums.index(least)


def cheapest_takers(machine, other, carry):
    """Return, by states, the first state of the second machine to move into with the least loss, or None."""
    come_to = left_from(machine)
    into = range(other.many())
    pairs = Pairs(machine, other, [(state, taker) for state in come_to for taker in into])
    sums = greatest_sums(pairs)
    takers = [None] * machine.many()
    for state in come_to:
        # The carry's cost is the same into whatever state, so the sums alone tell which is cheapest.
        takers[state] = cheapest_of([sums[pairs.places[(state, taker)]] for taker in into])
    return takers
