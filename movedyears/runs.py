"""Runs of machines on careers."""

from movedyears.errors import UnknownFact


def check_facts(machine, career):
    """Raise UnknownFact with the first fact of a career that the machine does not have."""
    for fact in career:
        if fact not in machine.facts:
            raise UnknownFact(fact)


def states_along(machine, state, career):
    """Return the states ahead of each year, from a state on, and the one behind the last year."""
    check_facts(machine, career)
    states = [state]
    for fact in career:
        states.append(machine.step[states[-1]][fact])
    return states


def state_after(machine, state, career):
    """Return the state behind the last year of a career from a state on."""
    return states_along(machine, state, career)[-1]


def gains_of(machine, state, career):
    """Return the gains of the years of a career from a state on."""
    states = states_along(machine, state, career)
    return [machine.gain[at][fact] for at, fact in zip(states, career)]


def total(machine, state, career):
    """Return the gains of a career from a state on, with what is paid on leaving behind it."""
    return sum(gains_of(machine, state, career)) + machine.leave[state_after(machine, state, career)]
