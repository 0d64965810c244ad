"""Machines, and the machine of rules."""

from movedyears.conditions import holds


class Machine:
    """Facts; by states the next states and the gains by facts; by states what is paid on leaving."""

    def __init__(self, facts, step, gain, leave):
        self.facts = list(facts)
        self.step = [dict(row) for row in step]
        self.gain = [dict(row) for row in gain]
        self.leave = list(leave)

    def many(self):
        """Return the number of states."""
        return len(self.leave)


def is_machine(machine):
    """Return whether a machine has a state, a row of steps and gains for each, and no other next states."""
    many = machine.many()
    if many < 1 or len(machine.step) != many or len(machine.gain) != many:
        return False
    if not all([set(row) == set(machine.facts) for row in machine.step + machine.gain]):
        return False
    return all([0 <= state < many for row in machine.step for state in row.values()])


def first_counts(rules):
    """Return the values of the counters at the beginning."""
    return {name: 0 for name in rules.names()}


def counted_on(counter, value, fact):
    """Return the value of a counter behind a year with a fact."""
    _, cap, steps = counter
    if fact not in steps:
        return value
    if steps[fact] == "reset":
        return 0
    return min(cap, value + steps[fact])


def year_counts(rules, counts, fact):
    """Return the values of the counters behind a year with a fact."""
    return {counter[0]: counted_on(counter, counts[counter[0]], fact) for counter in rules.counters}


def paid_sum(payments, counts):
    """Return the sum of the amounts of all payments (amount, condition) whose conditions hold."""
    return sum([amount for amount, condition in payments if holds(condition, counts)])


def year_gain(rules, counts, fact):
    """Return what a year with a fact brings, with the values of the counters ahead of it."""
    return paid_sum([(amount, condition) for amount, wanted, condition in rules.gains if wanted == fact], counts)


def leave_gain(rules, counts):
    """Return what is paid on leaving with these values of the counters."""
    return paid_sum(rules.leaves, counts)


def row_of(rules, counts):
    """Return the values of the counters as a tuple, in the order of the counters."""
    return tuple([counts[name] for name in rules.names()])


def counts_of(rules, row):
    """Return the values of the counters by their names."""
    return dict(zip(rules.names(), row))


def place_of(key, met, places):
    """Return the place of a key among those that were met; a new one is added behind them."""
    if key not in places:
        places[key] = len(met)
        met.append(key)
    return places[key]


def add_states(rules, machine, met, places):
    """Add to the machine the states of all rows of values that were met, and of those met from them on."""
    while machine.many() < len(met):
        counts = counts_of(rules, met[machine.many()])
        step = {}
        for fact in rules.facts:
            step[fact] = place_of(row_of(rules, year_counts(rules, counts, fact)), met, places)
        machine.step.append(step)
        machine.gain.append({fact: year_gain(rules, counts, fact) for fact in rules.facts})
        machine.leave.append(leave_gain(rules, counts))


def made(rules, more=()):
    """Return the machine of the rules, and the values of the counters by its states."""
    machine = Machine(rules.facts, [], [], [])
    met = []
    places = {}
    for counts in [first_counts(rules), *more]:
        place_of(row_of(rules, counts), met, places)
        # The search from one beginning ends before the next one is looked at.
        add_states(rules, machine, met, places)
    return machine, [counts_of(rules, row) for row in met]
