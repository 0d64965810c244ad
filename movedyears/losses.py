"""What a move can cost: the greatest losses, and papers that tell bounds of them."""

from movedyears.carrying import loss
from movedyears.errors import UnknownFact
from movedyears.longest import best_career, greatest_sums, lengths, ring_above_nought
from movedyears.pairs import (
    career_to, end_ahead, first_careers, first_ways, gain_ahead, left_from, moved_pairs, next_pair, numbers_of,
    pair_after, years_ahead,
)
from movedyears.runs import state_after

NEVER = "never"


def losses_by_sums(machine, carry, pairs, sums):
    """Return, by states, the greatest losses, with the pairs behind moves and their greatest sums."""
    losses = [NEVER] * machine.many()
    for state in left_from(machine):
        most = sums[pairs.places[(state, carry.to[state])]]
        losses[state] = None if most is None else carry.cost[state] + most
    return losses


def losses_from(machine, other, carry):
    """Return, by states, the greatest loss, None if it grows without end, "never" if no career leads to it."""
    pairs = moved_pairs(machine, other, carry)
    return losses_by_sums(machine, carry, pairs, greatest_sums(pairs))


def greatest_of(losses):
    """Return the greatest loss of all states, or None if one grows without end."""
    return None if None in losses else max([one for one in losses if one != NEVER])


def greatest_loss(machine, other, carry):
    """Return the greatest loss of a carry, or None if it grows without end."""
    return greatest_of(losses_from(machine, other, carry))


def first_of(facts, careers):
    """Return the first one of careers of the same length, in the order of the facts, fact by fact."""
    rows = [[facts.index(fact) for fact in career] for career in careers]
    return [facts[at] for at in min(rows)]


def shortest_losing(machine, carry, pairs, sums, greatest):
    """Return the first shortest career that has the greatest loss with some year of moving."""
    found = lengths(pairs, sums)
    before = first_careers(machine)
    places = {}
    for state, one in enumerate(losses_by_sums(machine, carry, pairs, sums)):
        if one == greatest:
            places[state] = pairs.places[(state, carry.to[state])]
    shortest = min([len(before[state]) + found[place] for state, place in places.items()])
    careers = [
        before[state] + best_career(pairs, sums, found, place) for state, place in places.items()
        if len(before[state]) + found[place] == shortest
    ]
    return first_of(machine.facts, careers)


def losing_career(machine, other, carry):
    """Return the first shortest career that has the greatest loss, and the first such year of moving, or None."""
    pairs = moved_pairs(machine, other, carry)
    sums = greatest_sums(pairs)
    greatest = greatest_of(losses_by_sums(machine, carry, pairs, sums))
    if greatest is None:
        return None
    career = shortest_losing(machine, carry, pairs, sums, greatest)
    year = 0
    while loss(machine, other, carry, career, year) != greatest:
        year += 1
    return career, year


def bound_paper(machine, other, carry):
    """Return the paper of a carry: its pairs with their greatest sums; or None if its loss grows without end."""
    pairs = moved_pairs(machine, other, carry)
    sums = greatest_sums(pairs)
    if None in sums:
        return None
    return sorted(zip(pairs.pairs, sums))


def bounds_pair(machine, other, numbers, pair):
    """Return whether the number of a pair is no less than what can be ahead on leaving and by a year."""
    if numbers[pair] < end_ahead(machine, other, pair):
        return False
    for fact in machine.facts:
        behind = next_pair(machine, other, pair, fact)
        if behind not in numbers or numbers[pair] < gain_ahead(machine, other, pair, fact) + numbers[behind]:
            return False
    return True


def verify_bound(machine, other, carry, bound, paper):
    """Return whether a paper is right for a bound."""
    numbers = numbers_of(machine, other, paper)
    if numbers is None:
        return False
    for state in left_from(machine):
        pair = (state, carry.to[state])
        if pair not in numbers or carry.cost[state] + numbers[pair] > bound:
            return False
    return all([bounds_pair(machine, other, numbers, pair) for pair in numbers])


def endless_paper(machine, other, carry):
    """Return a paper without end, or None if there is none."""
    pairs = moved_pairs(machine, other, carry)
    found = ring_above_nought(pairs)
    if found is None:
        return None
    place, ring = found
    begins = [pairs.places[(state, carry.to[state])] for state in left_from(machine)]
    begin, way = career_to(first_ways(pairs.facts, pairs.step, begins), place)
    state, _ = pairs.pairs[begin]
    return first_careers(machine)[state], way, ring


def verify_endless(machine, other, carry, paper):
    """Return whether three careers are a paper without end."""
    before, way, ring = paper
    try:
        state = state_after(machine, 0, before)
        pair = pair_after(machine, other, (state, carry.to[state]), way)
        comes_back = pair_after(machine, other, pair, ring) == pair
        return comes_back and years_ahead(machine, other, pair, ring) > 0
    except UnknownFact:
        return False
