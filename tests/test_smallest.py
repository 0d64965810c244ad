"""States that go on alike and smallest machines, point [23]."""

import copy
import itertools
import random
import unittest

from movedyears.alike import are_alike
from movedyears.machines import Machine, is_machine, made
from movedyears.pairs import left_from
from movedyears.rules import parse_rules
from movedyears.runs import total
from movedyears.smallest import classes, smallest
from samples import careers, machine_of, random_machine, random_rules, same_machine, shown


def sample():
    """Return a machine with states that stand twice, with amounts moved ahead, and one that is not come to.

    States 1 and 3 go on alike, with 4 more paid ahead at 3; states 0 and 5, too, with 1 more paid ahead at 5.
    """
    rows = [
        ([3, 0], [8, 1], 7), ([2, 5], [1, 0], 2), ([1, 2], [0, 6], 9),
        ([2, 0], [-3, -5], -2), ([4, 1], [3, 3], 3), ([1, 5], [3, 1], 6),
    ]
    return machine_of(["a", "b"], rows)


def pushed(machine, state, career):
    """Return the pushed gains on a career from a state on, by the words of the document."""
    found = []
    for fact in career:
        behind = machine.step[state][fact]
        found.append(machine.gain[state][fact] + machine.leave[behind] - machine.leave[state])
        state = behind
    return found


def classes_by_careers(machine):
    """Return the classes by the pushed gains on all careers that are as long as there are states."""
    least = {}
    found = {}
    for state in left_from(machine):
        rows = [pushed(machine, state, row) for row in itertools.product(machine.facts, repeat=machine.many())]
        found[state] = least.setdefault(str(rows), state)
    return found


def classes_by_rounds(machine):
    """Return the classes by comparing all states year by year, until nothing new is told."""
    rows = {state: () for state in left_from(machine)}
    many = 0
    while len(set(rows.values())) > many:
        many = len(set(rows.values()))
        marks = {row: mark for mark, row in enumerate(sorted(set(rows.values())))}
        told = {}
        for state in rows:
            behind = [marks[rows[machine.step[state][fact]]] for fact in machine.facts]
            told[state] = (tuple(pushed(machine, state, [fact])[0] for fact in machine.facts), tuple(behind))
        rows = told
    least = {}
    return {state: least.setdefault(rows[state], state) for state in sorted(rows)}


def met_in_breadth(machine):
    """Return the states in the order in which they are met, the facts in their order."""
    met = [0]
    for state in met:
        for fact in machine.facts:
            if machine.step[state][fact] not in met:
                met.append(machine.step[state][fact])
    return met


class Classes(unittest.TestCase):
    def check(self, machine, found):
        told = classes(machine)
        self.assertIs(type(told), dict)
        self.assertEqual(told, found)

    def test_states_that_stand_twice_with_amounts_moved_ahead(self):
        self.check(sample(), {0: 0, 1: 1, 2: 2, 3: 1, 5: 0})

    def test_one_state(self):
        self.check(machine_of(["a"], [([0], [5], 3)]), {0: 0})

    def test_states_that_are_not_come_to(self):
        # State 1 would go on as state 0 does, and state 3 as state 2 does.
        rows = [([2, 0], [1, 0], 0), ([2, 0], [1, 0], 0), ([2, 2], [0, 0], 0), ([3, 3], [0, 0], 0)]
        self.check(machine_of(["a", "b"], rows), {0: 0, 2: 2})

    def test_none_go_on_alike(self):
        rows = [([1], [0], 0), ([2], [0], 0), ([3], [0], 0), ([3], [1], 0)]
        self.check(machine_of(["a"], rows), {0: 0, 1: 1, 2: 2, 3: 3})

    def test_all_go_on_alike(self):
        rows = [([1], [0], 0), ([2], [0], 0), ([0], [0], 0)]
        self.check(machine_of(["a"], rows), {0: 0, 1: 0, 2: 0})
        # All that is paid on the way is made up for on leaving.
        rows = [([1], [5], 0), ([2], [7], -5), ([0], [-12], -12)]
        self.check(machine_of(["a"], rows), {0: 0, 1: 0, 2: 0})

    def test_the_same_gains_with_unlike_ends(self):
        rows = [([1], [0], 0), ([1], [0], 4)]
        self.check(machine_of(["a"], rows), {0: 0, 1: 1})
        rows = [([1], [-4], 0), ([1], [0], 4)]
        self.check(machine_of(["a"], rows), {0: 0, 1: 0})

    def test_the_least_state_need_not_be_met_first(self):
        rows = [([3, 2], [1, 1], 0), ([1, 1], [2, 2], 0), ([1, 0], [0, 0], 0), ([3, 3], [2, 2], 0)]
        self.check(machine_of(["a", "b"], rows), {0: 0, 1: 1, 2: 2, 3: 1})

    def test_without_facts(self):
        self.check(Machine([], [{}], [{}], [4]), {0: 0})

    def test_against_all_careers(self):
        rng = random.Random(61)
        fewer = 0
        for turn in range(150):
            machine = random_machine(rng, ["b", "a"], rng.randint(1, 3), 1)
            if turn % 3:
                machine = same_machine(rng, machine, turn % 3)
            found = classes_by_careers(machine)
            self.check(machine, found)
            fewer += len(set(found.values())) < len(found)
        self.assertGreater(fewer, 30)
        self.assertLess(fewer, 120)

    def test_against_rounds_of_years(self):
        rng = random.Random(65)
        fewer = 0
        for turn in range(800):
            machine = random_machine(rng, "abc"[:rng.randint(1, 3)], rng.randint(5, [8, 30][turn % 2]), 0)
            for _ in range(rng.randint(1, 3)):
                machine.gain[rng.randrange(machine.many())]["a"] = rng.randint(0, 1)
            if turn % 4:
                machine = same_machine(rng, machine, turn % 3)
            found = classes_by_rounds(machine)
            self.check(machine, found)
            fewer += 1 < len(set(found.values())) < len(found)
        self.assertGreater(fewer, 100)

    def test_states_that_only_later_years_tell_apart(self):
        # Only the first year by "a" brings something: states 3 and 5 are parted by those that they lead to.
        steps = [[1, 6], [2, 3], [3, 0], [5, 5], [2, 0], [5, 4], [2, 0]]
        rows = [(step, [int(state == 0), 0], 0) for state, step in enumerate(steps)]
        self.check(machine_of(["a", "b"], rows), {0: 0, 1: 1, 2: 2, 3: 3, 4: 4, 5: 5, 6: 4})

    def test_many_states(self):
        # All but the last one bring the same in the next years, and each one goes on in its own way.
        many = 5000
        rows = [([min(state + 1, many - 1), 0], [int(state == many - 1), 0], 0) for state in range(many)]
        self.check(machine_of(["a", "b"], rows), {state: state for state in range(many)})
        rows = [([(state + 1) % many], [state % 2], 0) for state in range(many)]
        self.check(machine_of(["a"], rows), {state: state % 2 for state in range(many)})


class Smallest(unittest.TestCase):
    def test_states_that_stand_twice_with_amounts_moved_ahead(self):
        step = [{"a": 1, "b": 0}, {"a": 2, "b": 0}, {"a": 1, "b": 2}]
        gain = [{"a": -1, "b": 1}, {"a": 8, "b": 4}, {"a": -7, "b": 6}]
        self.assertEqual(shown(smallest(sample())), (["a", "b"], step, gain, [7, 7, 7]))

    def test_the_order_of_the_states_and_pushed_gains(self):
        # By "a" state 3 is met first, which goes on as 1 does; then 2.
        rows = [([3, 2], [10, 20], 5), ([2, 0], [1, 2], 7), ([2, 1], [0, 30], 100), ([2, 0], [3, 4], 9)]
        found = smallest(machine_of(["a", "b"], rows))
        self.assertIs(type(found), Machine)
        step = [{"a": 1, "b": 2}, {"a": 2, "b": 0}, {"a": 2, "b": 1}]
        gain = [{"a": 14, "b": 115}, {"a": 94, "b": 0}, {"a": 0, "b": -63}]
        self.assertEqual(shown(found), (["a", "b"], step, gain, [5, 5, 5]))

    def test_the_facts_in_their_order(self):
        rows = [([1, 2], [1, 1], 0), ([1, 1], [2, 2], 0), ([2, 2], [3, 3], 0)]
        found = smallest(machine_of(["z", "a"], rows))
        self.assertEqual(found.facts, ["z", "a"])
        self.assertEqual(found.gain, [{"z": 1, "a": 1}, {"z": 2, "a": 2}, {"z": 3, "a": 3}])
        rows = [([2, 1], [1, 1], 0), ([1, 1], [2, 2], 0), ([2, 2], [3, 3], 0)]
        found = smallest(machine_of(["z", "a"], rows))
        self.assertEqual(found.step, [{"z": 1, "a": 2}, {"z": 1, "a": 1}, {"z": 2, "a": 2}])
        self.assertEqual(found.gain, [{"z": 1, "a": 1}, {"z": 3, "a": 3}, {"z": 2, "a": 2}])

    def test_what_is_paid_on_leaving_at_the_beginning(self):
        found = smallest(machine_of(["a"], [([1], [4], -6), ([1], [2], 9)]))
        self.assertEqual(shown(found), (["a"], [{"a": 1}, {"a": 1}], [{"a": 19}, {"a": 2}], [-6, -6]))
        found = smallest(machine_of(["a"], [([1], [-13], -6), ([1], [2], 9)]))
        self.assertEqual(shown(found), (["a"], [{"a": 0}], [{"a": 2}], [-6]))

    def test_without_facts(self):
        self.assertEqual(shown(smallest(Machine([], [{}], [{}], [4]))), ([], [{}], [{}], [4]))

    def check(self, machine, longest):
        found = smallest(machine)
        self.assertTrue(is_machine(found))
        for career in careers(machine.facts, longest):
            self.assertEqual(total(found, 0, career), total(machine, 0, career))
        self.assertTrue(are_alike(machine, found))
        self.assertEqual(found.leave, [machine.leave[0]] * found.many())
        self.assertEqual(met_in_breadth(found), list(range(found.many())))
        # No two states go on alike, so that no machine that is alike has fewer.
        self.assertEqual(classes(found), {state: state for state in range(found.many())})
        self.assertEqual(shown(smallest(found)), shown(found))
        return found

    def test_it_is_alike_and_has_no_smaller_one(self):
        rng = random.Random(62)
        for _ in range(80):
            machine = random_machine(rng, ["b", "a"], rng.randint(1, 5), rng.randint(0, 3))
            found = self.check(machine, 6)
            self.assertEqual(found.many(), len(set(classes(machine).values())))

    def test_machines_that_are_alike_have_equal_ones(self):
        rng = random.Random(63)
        equal, unequal = 0, 0
        for _ in range(150):
            machine = random_machine(rng, ["b", "a"], rng.randint(1, 4), 2)
            other = same_machine(rng, machine, 5)
            self.assertEqual(shown(smallest(other)), shown(smallest(machine)))
            if rng.random() < 0.7:
                other.gain[rng.randrange(other.many())]["a"] += 1
            alike = are_alike(machine, other)
            self.assertEqual(shown(smallest(other)) == shown(smallest(machine)), alike)
            equal += alike
            unequal += not alike
        self.assertGreater(min(equal, unequal), 30)

    def test_fewest_states_of_all_machines(self):
        # Of one fact and two states with small amounts: whatever is alike and has one state is among those.
        parts = list(itertools.product((0, 1), (0, 1), (0, 1)))
        small = [machine_of(["a"], [([0], [gain], leave)]) for gain in (-1, 0, 1, 2) for leave in (0, 1)]
        many = [0, 0, 0]
        for rows in itertools.product(parts, parts):
            machine = machine_of(["a"], [([step], [gain], leave) for step, gain, leave in rows])
            fewest = 1 if any([are_alike(one, machine) for one in small]) else 2
            self.assertEqual(smallest(machine).many(), fewest)
            many[fewest] += 1
        self.assertGreater(min(many[1:]), 10)

    def test_machines_of_rules(self):
        text = "facts a b\ncount n 5 a 1\ncount m 3 a 1 b 1\ngain 3 a if n >= 2\nleave 4 if n >= 5"
        machine = made(parse_rules(text))[0]
        found = self.check(machine, 7)
        # The counter m is of no use, and n counts up to 5.
        self.assertEqual(found.many(), 6)
        self.assertEqual([row["a"] for row in found.gain], [0, 0, 3, 3, 7, 3])
        rng = random.Random(64)
        fewer = 0
        for _ in range(30):
            rules = random_rules(rng, ["work", "pause"], ["x", "y"])
            machine = made(rules)[0]
            fewer += self.check(machine, 5).many() < machine.many()
        self.assertGreater(fewer, 10)


class Unchanged(unittest.TestCase):
    def test_what_is_passed_in_is_not_changed(self):
        machine = sample()
        before = copy.deepcopy(shown(machine))
        classes(machine).clear()
        found = smallest(machine)
        found.facts.append("c")
        for rows in (found.step, found.gain):
            for row in rows:
                row.clear()
        found.leave.clear()
        self.assertEqual(shown(machine), before)

    def test_nothing_is_shared_with_a_smallest_one(self):
        machine = smallest(sample())
        before = copy.deepcopy(shown(machine))
        found = smallest(machine)
        found.facts.clear()
        found.step[0].clear()
        found.gain[0].clear()
        found.leave.clear()
        self.assertEqual(shown(machine), before)
        self.assertEqual(shown(smallest(machine)), before)


if __name__ == "__main__":
    unittest.main()
