"""Rules and their texts, machines, careers and carries, for several tests."""

import itertools

from movedyears.carrying import Carry
from movedyears.machines import Machine
from movedyears.rules import Rules


def fields(rules):
    """Return all that rules tell, so that two rules can be compared."""
    return (rules.facts, rules.counters, rules.gains, rules.leaves)


def shown(machine):
    """Return all that a machine tells, so that two machines can be compared."""
    return (machine.facts, machine.step, machine.gain, machine.leave)


def machine_of(facts, rows):
    """Return a machine of rows (next states, gains, what is paid on leaving), the first two in the order of facts."""
    step = [dict(zip(facts, row[0])) for row in rows]
    gain = [dict(zip(facts, row[1])) for row in rows]
    return Machine(list(facts), step, gain, [row[2] for row in rows])


def careers(facts, longest):
    """Return all careers up to a length, the shorter ones first, then in the order of the facts."""
    found = []
    for many in range(longest + 1):
        found.extend([list(career) for career in itertools.product(facts, repeat=many)])
    return found


def random_condition(rng, names):
    """Return a condition, with or without tests."""
    many = rng.choice([0, 0, 1, 2]) if names else 0
    return [(rng.choice(names), rng.choice([">=", "<"]), rng.randint(0, 5)) for _ in range(many)]


def random_rules(rng, facts, names):
    """Return rules with these facts and counters with these names."""
    counters = []
    for name in names:
        cap = rng.randint(1, 4)
        chosen = [fact for fact in facts if rng.random() < 0.7]
        counters.append((name, cap, {fact: rng.choice(["reset", rng.randint(1, cap)]) for fact in chosen}))
    gains = [(rng.randint(-9, 9), rng.choice(facts), random_condition(rng, names)) for _ in range(rng.randint(0, 6))]
    leaves = [(rng.randint(-9, 9), random_condition(rng, names)) for _ in range(rng.randint(0, 4))]
    return Rules(list(facts), counters, gains, leaves)


def random_machine(rng, facts, many, most):
    """Return a machine with so many states and amounts from -most to most."""
    rows = []
    for _ in range(many):
        step = [rng.randrange(many) for _ in facts]
        rows.append((step, [rng.randint(-most, most) for _ in facts], rng.randint(-most, most)))
    return machine_of(facts, rows)


def random_carry(rng, machine, other, most):
    """Return a carry between two machines."""
    to = [rng.randrange(other.many()) for _ in range(machine.many())]
    return Carry(to, [rng.randint(-most, most) for _ in range(machine.many())])


def smallest():
    return Rules(["work"], [], [], [])


def pension():
    """Rules with a waiting time, a cap, a counter that begins anew, and gains of each kind."""
    return Rules(
        ["work", "pause", "strike"],
        [("years", 20, {"work": 1, "strike": "reset"}), ("idle", 3, {}), ("bonus", 5, {"pause": 5})],
        [
            (100, "work", []),
            (-20, "pause", [("years", "<", 3)]),
            (0, "work", [("years", ">=", 5), ("idle", "<", 2), ("bonus", ">=", 0)]),
        ],
        [(1000, [("years", ">=", 20)]), (-1000, []), (7, [("idle", ">=", 1), ("years", "<", 10)])],
    )


PENSION_TEXT = """facts work pause strike
count years 20 work 1 strike reset
count idle 3
count bonus 5 pause 5
gain 100 work
gain -20 pause if years < 3
gain 0 work if years >= 5 and idle < 2 and bonus >= 0
leave 1000 if years >= 20
leave -1000
leave 7 if idle >= 1 and years < 10"""


def odd_names():
    """Rules whose names are words of the text."""
    return Rules(
        ["if", "reset", "and", "count", "gain", "leave"],
        [
            ("if", 4, {"if": 4, "reset": "reset", "and": 1}),
            ("and", 20, {"reset": 2, "gain": "reset", "leave": 3}),
            ("count", 1, {"count": "reset"}),
        ],
        [
            (1, "if", [("if", ">=", 1), ("and", "<", 2), ("count", ">=", 1)]),
            (2, "and", [("and", ">=", 20)]),
            (3, "gain", []),
        ],
        [(4, [("and", "<", 0), ("and", ">=", 0), ("if", "<", 3)])],
    )


ODD_TEXT = """facts if reset and count gain leave
count if 4 if 4 reset reset and 1
count and 20 reset 2 gain reset leave 3
count count 1 count reset
gain 1 if if if >= 1 and and < 2 and count >= 1
gain 2 and if and >= 20
gain 3 gain
leave 4 if and < 0 and and >= 0 and if < 3"""


def brought_down(rng, machine, down):
    """Lessen all gains, so that fewer losses grow without end."""
    for row in machine.gain:
        for fact in machine.facts:
            row[fact] -= rng.randint(0, down)
    return machine


def random_case(rng, facts, turn):
    """Return two machines and a carry; of several turns some have a loss that grows without end."""
    machine = brought_down(rng, random_machine(rng, facts, rng.randint(1, 4), 3), turn % 7)
    other = random_machine(rng, facts, rng.randint(1, 3), 1)
    return machine, other, random_carry(rng, machine, other, 4)


def still(facts):
    """Return a machine that never pays: another one is ahead of it by all that it pays itself."""
    return machine_of(facts, [([0] * len(facts), [0] * len(facts), 0)])


def same_machine(rng, machine, most):
    """Return a machine that is alike: with states split and numbered anew, and with amounts moved ahead."""
    copies = [state for state in range(1, machine.many()) for _ in range(rng.randint(1, 2))]
    rng.shuffle(copies)
    copies = [0] + copies + [rng.randrange(machine.many())]
    ahead = [0] + [rng.randint(-most, most) for _ in copies[1:]]
    rows = []
    for at, state in enumerate(copies):
        chosen = []
        for fact in machine.facts:
            fitting = [place for place, one in enumerate(copies) if one == machine.step[state][fact]]
            chosen.append(rng.choice(fitting))
        gains = [machine.gain[state][fact] for fact in machine.facts]
        moved_ahead = [gain + ahead[place] - ahead[at] for gain, place in zip(gains, chosen)]
        rows.append((chosen, moved_ahead, machine.leave[state] - ahead[at]))
    return machine_of(machine.facts, rows)
