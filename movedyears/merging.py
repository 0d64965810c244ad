"""Machines made of machines: their sum, a machine times a number, and the better of two."""

from movedyears.errors import TooManyStates
from movedyears.longest import greatest_sums
from movedyears.machines import Machine, place_of
from movedyears.pairs import Pairs

FIRST = "first"
SECOND = "second"


def sum_of(machine, other):
    """Return the machine whose amounts are the sums of those of two machines."""
    pairs = Pairs(machine, other, [(0, 0)])
    gain = []
    for first, second in pairs.pairs:
        gain.append({fact: machine.gain[first][fact] + other.gain[second][fact] for fact in pairs.facts})
    leave = [machine.leave[first] + other.leave[second] for first, second in pairs.pairs]
    return Machine(pairs.facts, pairs.step, gain, leave)


def times(machine, number):
    """Return the machine with all amounts so many times."""
    gain = [{fact: number * row[fact] for fact in machine.facts} for row in machine.gain]
    return Machine(machine.facts, machine.step, gain, [number * amount for amount in machine.leave])


class Better:
    """The states (place of a pair, lead) of the better of two machines, and what it pays there.

    While the lead is a number the gains of the first machine are paid; what the second one's are ahead of
    these is made up for when the lead becomes "second", or on leaving.
    """

    def __init__(self, machine, other):
        self.machine = machine
        self.other = other
        self.pairs = Pairs(machine, other, [(0, 0)])
        self.most_ahead = greatest_sums(self.pairs)
        # The pairs of the machines the other way round are met in the same order, so the places are the same.
        self.most_behind = greatest_sums(Pairs(other, machine, [(0, 0)]))

    def judged(self, place, lead):
        """Return a lead at the place of a pair, as a word if it is to be one."""
        behind, ahead = self.most_behind[place], self.most_ahead[place]
        if behind is not None and lead - behind >= 0:
            return FIRST
        if ahead is not None and lead + ahead <= 0:
            return SECOND
        return lead

    def year_from(self, state, fact):
        """Return the state that a year leads to, and its gain."""
        place, lead = state
        first, second = self.pairs.pairs[place]
        behind = self.pairs.step[place][fact]
        if lead == FIRST:
            return (behind, lead), self.machine.gain[first][fact]
        if lead == SECOND:
            return (behind, lead), self.other.gain[second][fact]
        further = lead + self.pairs.gain[place][fact]
        judged = self.judged(behind, further)
        made_up = further if judged == SECOND else 0
        return (behind, judged), self.machine.gain[first][fact] - made_up

    def left_at(self, state):
        """Return what is paid on leaving."""
        place, lead = state
        first, second = self.pairs.pairs[place]
        if lead == FIRST:
            return self.machine.leave[first]
        if lead == SECOND:
            return self.other.leave[second]
        return max(self.machine.leave[first], self.other.leave[second] - lead)


def better_of(machine, other, most):
    """Return the better of two machines; TooManyStates if it would have more than so many states."""
    better = Better(machine, other)
    found = Machine(machine.facts, [], [], [])
    met = []
    places = {}
    place_of((0, better.judged(0, 0)), met, places)
    while found.many() < len(met):
        # Leads may go up and down without end, so they are counted as they are met.
        if len(met) > most:
            raise TooManyStates()
        state = met[found.many()]
        years = {fact: better.year_from(state, fact) for fact in machine.facts}
        found.step.append({fact: place_of(years[fact][0], met, places) for fact in machine.facts})
        found.gain.append({fact: years[fact][1] for fact in machine.facts})
        found.leave.append(better.left_at(state))
    return found
