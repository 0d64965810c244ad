"""Carrying rules and their text; carries between machines, and what a member gets who moves."""

from movedyears.errors import NoCarry, NoSuchYear, UnlikeFacts
from movedyears.machines import made, paid_sum, row_of
from movedyears.runs import gains_of, state_after, total
from movedyears.words import lines_of, payment_line, read_payment

MOST_COSTS = 20
MOST_LESS = 20


class CarryRules:
    """Takes (counter of the other scheme, counter of the first one, number); costs (amount, condition)."""

    def __init__(self, takes, costs):
        self.takes = list(takes)
        self.costs = list(costs)


class Carry:
    """By states of a first machine: the state of a second one into which it is carried, and the cost."""

    def __init__(self, to, cost):
        self.to = list(to)
        self.cost = list(cost)


def take_line(take):
    """Return the line of a take."""
    taken, counter, number = take
    words = ["take", taken, counter]
    if number != 0:
        words.extend(["less", str(number)])
    return " ".join(words)


def format_carry(carry_rules):
    """Return the text of carrying rules."""
    lines = [take_line(take) for take in carry_rules.takes]
    lines.extend([payment_line("cost", cost) for cost in carry_rules.costs])
    return "\n".join(lines)


def read_take(line, carry_rules, names, other_names):
    """Read the rest of the line of a take, with the carrying rules of the lines ahead of it."""
    line.check(not carry_rules.costs)
    taken = line.one_of(other_names)
    line.check(taken not in [take[0] for take in carry_rules.takes])
    counter = line.one_of(names)
    number = line.integer(1, MOST_LESS) if line.skips("less") else 0
    line.finish()
    return (taken, counter, number)


def read_cost(line, carry_rules, names):
    """Read the rest of the line of a cost, with the carrying rules of the lines ahead of it."""
    line.check(len(carry_rules.costs) < MOST_COSTS)
    return read_payment(line, names)


def parse_carry(text, rules, other):
    """Return the carrying rules that a text tells; LineError with the first wrong line."""
    carry_rules = CarryRules([], [])
    # The empty text has no line here, not an empty one.
    lines = lines_of(text) if text else []
    for line in lines:
        if line.skips("take"):
            carry_rules.takes.append(read_take(line, carry_rules, rules.names(), other.names()))
        else:
            line.literal("cost")
            carry_rules.costs.append(read_cost(line, carry_rules, rules.names()))
    return carry_rules


def carried_counts(carry_rules, counts, other):
    """Return the values of the counters of the other scheme behind a move with these values of the first one."""
    takes = {taken: (counter, number) for taken, counter, number in carry_rules.takes}
    carried = {}
    for name, cap, _ in other.counters:
        carried[name] = 0
        if name in takes:
            counter, number = takes[name]
            carried[name] = max(0, min(cap, counts[counter] - number))
    return carried


def move_cost(carry_rules, counts):
    """Return the cost of a move with these values of the counters of the first scheme."""
    return paid_sum(carry_rules.costs, counts)


def made_carry(rules, other, carry_rules):
    """Return the machines of both rules, the second one with all carried values, and the Carry between them."""
    if rules.facts != other.facts:
        raise UnlikeFacts()
    machine, counts = made(rules)
    carried = [carried_counts(carry_rules, values, other) for values in counts]
    second, second_counts = made(other, carried)
    states = {row_of(other, values): state for state, values in enumerate(second_counts)}
    to = [states[row_of(other, values)] for values in carried]
    cost = [move_cost(carry_rules, values) for values in counts]
    return machine, second, Carry(to, cost)


def carry_between(carries, scheme, other):
    """Return the carry from a scheme to another one, by their numbers; NoCarry if there is none."""
    if (scheme, other) not in carries:
        raise NoCarry(scheme, other)
    return carries[(scheme, other)]


def moved(machine, other, carry, career, year):
    """Return what a member gets who moves behind so many years of a career."""
    if not 0 <= year <= len(career):
        raise NoSuchYear(year)
    before = career[:year]
    state = state_after(machine, 0, before)
    gained = sum(gains_of(machine, 0, before)) - carry.cost[state]
    return gained + total(other, carry.to[state], career[year:])


def loss(machine, other, carry, career, year):
    """Return what a member who moves behind so many years gets less than one who stays."""
    # A missing year is told ahead of an unknown fact, so this comes first.
    by_moving = moved(machine, other, carry, career, year)
    return total(machine, 0, career) - by_moving
