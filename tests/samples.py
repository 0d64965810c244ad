"""Rules and their texts, for several tests."""

from movedyears.rules import Rules


def fields(rules):
    """Return all that rules tell, so that two rules can be compared."""
    return (rules.facts, rules.counters, rules.gains, rules.leaves)


def smallest():
    return Rules(["work"], [], [], [])


def pension():
    """Rules with a waiting time, a cap, a counter that begins anew, and gains of each kind."""
    return Rules(
        ["work", "pause", "strike"],
        [("years", 20, {"work": 1, "strike": "reset"}), ("idle", 3, {}), ("bonus", 5, {"pause": 5})],
        [
            (100, "work", []),
            (-20, "pause", [("years", "<", 3)]),
            (0, "work", [("years", ">=", 5), ("idle", "<", 2), ("bonus", ">=", 0)]),
        ],
        [(1000, [("years", ">=", 20)]), (-1000, []), (7, [("idle", ">=", 1), ("years", "<", 10)])],
    )


PENSION_TEXT = """facts work pause strike
count years 20 work 1 strike reset
count idle 3
count bonus 5 pause 5
gain 100 work
gain -20 pause if years < 3
gain 0 work if years >= 5 and idle < 2 and bonus >= 0
leave 1000 if years >= 20
leave -1000
leave 7 if idle >= 1 and years < 10"""


def odd_names():
    """Rules whose names are words of the text."""
    return Rules(
        ["if", "reset", "and", "count", "gain", "leave"],
        [
            ("if", 4, {"if": 4, "reset": "reset", "and": 1}),
            ("and", 20, {"reset": 2, "gain": "reset", "leave": 3}),
            ("count", 1, {"count": "reset"}),
        ],
        [
            (1, "if", [("if", ">=", 1), ("and", "<", 2), ("count", ">=", 1)]),
            (2, "and", [("and", ">=", 20)]),
            (3, "gain", []),
        ],
        [(4, [("and", "<", 0), ("and", ">=", 0), ("if", "<", 3)])],
    )


ODD_TEXT = """facts if reset and count gain leave
count if 4 if 4 reset reset and 1
count and 20 reset 2 gain reset leave 3
count count 1 count reset
gain 1 if if if >= 1 and and < 2 and count >= 1
gain 2 and if and >= 20
gain 3 gain
leave 4 if and < 0 and and >= 0 and if < 3"""
