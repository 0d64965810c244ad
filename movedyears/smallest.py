"""States that go on alike, and the smallest machine that is alike with a machine."""

from movedyears.machines import Machine
from movedyears.pairs import first_ways, left_from


def pushed_gain(machine, state, fact):
    """Return the pushed gain of a year: with what leaving pays behind it, less what it pays ahead of it."""
    return machine.gain[state][fact] + machine.leave[machine.step[state][fact]] - machine.leave[state]


def sources_of(machine, come_to):
    """Return, by facts and by states that are come to, those from which a year leads there."""
    sources = {fact: {state: [] for state in come_to} for fact in machine.facts}
    for fact in machine.facts:
        for state in come_to:
            sources[fact][machine.step[state][fact]].append(state)
    return sources


class Parting:
    """Classes of the states that are come to, parted until the states of each one go on alike."""

    def __init__(self, machine):
        come_to = left_from(machine)
        self.facts = machine.facts
        self.sources = sources_of(machine, come_to)
        # The states of a class are the keys of a dict, so that each can be taken out at once.
        self.states = []
        self.number = {}
        self.waits = []
        self.waiting = []
        rows = {}
        for state in come_to:
            row = tuple([pushed_gain(machine, state, fact) for fact in machine.facts])
            rows.setdefault(row, []).append(state)
        for states in rows.values():
            self.let_wait(self.add_class(states))
        while self.waiting:
            self.part_by(self.waiting.pop())

    def add_class(self, states):
        """Add a class of states, and return its number."""
        for state in states:
            self.number[state] = len(self.states)
        self.states.append({state: True for state in states})
        self.waits.append(False)
        return len(self.states) - 1

    def let_wait(self, number):
        """Let a class wait until others are parted by it."""
        self.waits[number] = True
        self.waiting.append(number)

    def part_by(self, number):
        """Part each class into the states from which a year leads into a class, and the others."""
        self.waits[number] = False
        # That class may be parted itself, but as it is now all others are to be parted by it.
        targets = list(self.states[number])
        for fact in self.facts:
            leading = self.leading_into(targets, fact)
            for parted, states in leading.items():
                if len(states) < len(self.states[parted]):
                    self.part(parted, states)

    def leading_into(self, targets, fact):
        """Return, by classes, the states from which a year with a fact leads to one of the targets."""
        leading = {}
        for target in targets:
            for state in self.sources[fact][target]:
                leading.setdefault(self.number[state], []).append(state)
        return leading

    def part(self, number, taken):
        """Take states out of a class, into a new one."""
        for state in taken:
            del self.states[number][state]
        added = self.add_class(taken)
        # If all were parted by the whole class, one part does what both do: the smaller one does it sooner.
        if self.waits[number] or len(taken) <= len(self.states[number]):
            self.let_wait(added)
        else:
            self.let_wait(number)


def classes(machine):
    """Return a dict from each state that is come to, to the least one that goes on alike."""
    parting = Parting(machine)
    least = [min(states) for states in parting.states]
    return {state: least[parting.number[state]] for state in sorted(parting.number)}


def smallest(machine):
    """Return the smallest machine that is alike."""
    least = classes(machine)
    step = {state: {fact: least[machine.step[state][fact]] for fact in machine.facts} for state in least}
    # They are met in breadth; each class is met as its least state.
    met = list(first_ways(machine.facts, step, [0]))
    places = {state: place for place, state in enumerate(met)}
    return Machine(
        machine.facts,
        [{fact: places[step[state][fact]] for fact in machine.facts} for state in met],
        [{fact: pushed_gain(machine, state, fact) for fact in machine.facts} for state in met],
        [machine.leave[0]] * len(met),
    )
