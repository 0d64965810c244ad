"""Machines that have the same total on every career."""

from movedyears.pairs import Pairs, career_to, end_ahead, first_ways, gain_ahead, next_pair, numbers_of


def telling_career(machine, other):
    """Return the first shortest career on which the totals of two machines differ, or None if they are alike."""
    pairs = Pairs(machine, other, [(0, 0)])
    if pairs.end[0] != 0:
        return []
    ways = first_ways(pairs.facts, pairs.step, [0])
    # The places are in the order of the first shortest careers, and the totals on those are equal so far.
    for place in range(pairs.many()):
        for fact in pairs.facts:
            end = pairs.end[pairs.step[place][fact]]
            if pairs.gain[place][fact] + end != pairs.end[place]:
                return career_to(ways, place)[1] + [fact]
    return None


def are_alike(machine, other):
    """Return whether two machines have the same total on every career."""
    return telling_career(machine, other) is None


def alike_paper(machine, other):
    """Return the paper of two machines that are alike, or None if they are not."""
    if not are_alike(machine, other):
        return None
    pairs = Pairs(machine, other, [(0, 0)])
    # What is ahead on the way to a pair is made up for on leaving there.
    return sorted(zip(pairs.pairs, [-end for end in pairs.end]))


def levels_pair(machine, other, numbers, pair):
    """Return whether the number of a pair is made up for on leaving, and goes on right in each year."""
    if numbers[pair] + end_ahead(machine, other, pair) != 0:
        return False
    for fact in machine.facts:
        behind = next_pair(machine, other, pair, fact)
        if behind not in numbers or numbers[behind] != numbers[pair] + gain_ahead(machine, other, pair, fact):
            return False
    return True


def verify_alike(machine, other, paper):
    """Return whether a paper of likeness is right."""
    numbers = numbers_of(machine, other, paper)
    if numbers is None or (0, 0) not in numbers or numbers[(0, 0)] != 0:
        return False
    return all([levels_pair(machine, other, numbers, pair) for pair in numbers])
