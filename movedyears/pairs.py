"""Pairs of states of two machines, and the first shortest careers that lead to states and pairs."""

from movedyears.errors import UnlikeFacts
from movedyears.machines import place_of
from movedyears.runs import gains_of, state_after


class Pairs:
    """The pairs of states that are met from some on; by places: next places and gains by facts, and ends."""

    def __init__(self, machine, other, begins):
        if machine.facts != other.facts:
            raise UnlikeFacts()
        self.facts = list(machine.facts)
        self.pairs = []
        self.places = {}
        self.step = []
        self.gain = []
        self.end = []
        for pair in begins:
            place_of(pair, self.pairs, self.places)
        while self.many() < len(self.pairs):
            add_rows(self, machine, other, self.pairs[self.many()])

    def many(self):
        """Return the number of pairs."""
        return len(self.end)


def add_rows(pairs, machine, other, pair):
    """Add the rows of the next pair, and the pairs that a year leads to from it."""
    step = {}
    for fact in pairs.facts:
        step[fact] = place_of(next_pair(machine, other, pair, fact), pairs.pairs, pairs.places)
    pairs.step.append(step)
    pairs.gain.append({fact: gain_ahead(machine, other, pair, fact) for fact in pairs.facts})
    pairs.end.append(end_ahead(machine, other, pair))


def next_pair(machine, other, pair, fact):
    """Return the pair to which a year leads."""
    first, second = pair
    return (machine.step[first][fact], other.step[second][fact])


def gain_ahead(machine, other, pair, fact):
    """Return what the first machine's gain of a year is ahead."""
    first, second = pair
    return machine.gain[first][fact] - other.gain[second][fact]


def end_ahead(machine, other, pair):
    """Return what the first machine is ahead on leaving at a pair."""
    first, second = pair
    return machine.leave[first] - other.leave[second]


def pair_after(machine, other, pair, career):
    """Return the pair to which a career leads; raises UnknownFact."""
    first, second = pair
    return (state_after(machine, first, career), state_after(other, second, career))


def years_ahead(machine, other, pair, career):
    """Return what the gains of the first machine on a career are ahead; raises UnknownFact."""
    first, second = pair
    return sum(gains_of(machine, first, career)) - sum(gains_of(other, second, career))


def first_ways(facts, step, begins):
    """Return, for each place that is met from some on, the place and fact ahead of it, or None for those.

    They are met in breadth, so each way is a shortest one; from one beginning it is the first of these.
    """
    ways = {begin: None for begin in begins}
    met = list(begins)
    looked = 0
    while looked < len(met):
        for fact in facts:
            place = step[met[looked]][fact]
            if place not in ways:
                ways[place] = (met[looked], fact)
                met.append(place)
        looked += 1
    return ways


def career_to(ways, place):
    """Return the first place and the career of a way to a place."""
    career = []
    while ways[place] is not None:
        place, fact = ways[place]
        career.append(fact)
    return place, career[::-1]


def first_careers(machine):
    """Return, by states, the first shortest career that leads to each, or None."""
    ways = first_ways(machine.facts, machine.step, [0])
    return [career_to(ways, state)[1] if state in ways else None for state in range(machine.many())]


def left_from(machine):
    """Return the states that are come to, ascending."""
    return sorted(first_ways(machine.facts, machine.step, [0]))


def moved_pairs(machine, other, carry):
    """Return the Pairs that are met behind moves from the states that are come to."""
    return Pairs(machine, other, [(state, carry.to[state]) for state in left_from(machine)])


def numbers_of(machine, other, paper):
    """Return a dict from the pairs of a paper to their numbers; None if one stands twice or is no pair."""
    numbers = {}
    for pair, number in paper:
        first, second = pair
        if pair in numbers or not (0 <= first < machine.many() and 0 <= second < other.many()):
            return None
        numbers[pair] = number
    return numbers
