"""Runs of machines, point [9]."""

import copy
import unittest

from movedyears.errors import UnknownFact
from movedyears.machines import Machine
from movedyears.runs import gains_of, state_after, states_along, total
from samples import machine_of, shown


def sample():
    """Return a machine whose states, gains and payments are all different."""
    rows = [([1, 2], [1, 20], 100), ([2, 0], [-2, 30], 200), ([2, 1], [3, 40], -300), ([0, 3], [5, 50], 400)]
    return machine_of(["a", "b"], rows)


class Runs(unittest.TestCase):
    def check(self, state, career, states, gains, paid):
        machine = sample()
        self.assertEqual(states_along(machine, state, career), states)
        self.assertEqual(state_after(machine, state, career), states[-1])
        self.assertEqual(gains_of(machine, state, career), gains)
        self.assertEqual(total(machine, state, career), sum(gains) + paid)

    def test_the_empty_career(self):
        self.check(0, [], [0], [], 100)
        self.check(1, [], [1], [], 200)
        self.check(2, [], [2], [], -300)
        self.check(3, [], [3], [], 400)

    def test_one_year(self):
        self.check(0, ["a"], [0, 1], [1], 200)
        self.check(0, ["b"], [0, 2], [20], -300)
        self.check(3, ["b"], [3, 3], [50], 400)

    def test_from_the_beginning(self):
        self.check(0, ["a", "a", "a", "b"], [0, 1, 2, 2, 1], [1, -2, 3, 40], 200)
        self.check(0, ["a", "b", "b"], [0, 1, 0, 2], [1, 30, 20], -300)

    def test_from_other_states(self):
        self.check(2, ["b", "b", "a"], [2, 1, 0, 1], [40, 30, 1], 200)
        self.check(3, ["b", "a", "b"], [3, 3, 0, 2], [50, 5, 20], -300)

    def test_a_long_career(self):
        machine = sample()
        career = ["a", "b"] * 3000
        self.assertEqual(states_along(machine, 0, career), [0, 1] * 3000 + [0])
        self.assertEqual(total(machine, 0, career), 31 * 3000 + 100)

    def test_what_is_passed_in_is_not_changed(self):
        machine, career = sample(), ["a", "b", "b"]
        before = copy.deepcopy(shown(machine))
        states_along(machine, 0, career).append(9)
        gains_of(machine, 0, career).clear()
        state_after(machine, 0, career)
        total(machine, 0, career)
        self.assertEqual(career, ["a", "b", "b"])
        self.assertEqual(shown(machine), before)
        self.assertEqual(gains_of(machine, 0, career), [1, 30, 20])
        self.assertEqual(states_along(machine, 0, career), [0, 1, 0, 2])


class Unknown(unittest.TestCase):
    def check(self, career, fact):
        for function in (states_along, state_after, gains_of, total):
            for state in range(4):
                with self.subTest(function=function, career=career, state=state):
                    with self.assertRaises(UnknownFact) as caught:
                        function(sample(), state, career)
                    self.assertEqual(caught.exception.fact, fact)

    def test_the_first_fact_that_the_machine_does_not_have(self):
        self.check(["c"], "c")
        self.check(["a", "b", "c"], "c")
        self.check(["a", "d", "c", "a"], "d")
        self.check(["c", "d"], "c")
        self.check(["b", "ab", "c"], "ab")
        self.check(["a", "A"], "A")
        self.check([""], "")

    def test_a_machine_without_facts(self):
        machine = Machine([], [{}], [{}], [5])
        self.assertEqual(total(machine, 0, []), 5)
        with self.assertRaises(UnknownFact) as caught:
            total(machine, 0, ["a", "b"])
        self.assertEqual(caught.exception.fact, "a")


if __name__ == "__main__":
    unittest.main()
