"""Subsidies, free carries and the cheapest takers, point [24]."""

import copy
import random
import unittest

from movedyears.carrying import Carry, CarryRules, loss, made_carry, parse_carry
from movedyears.errors import Endless
from movedyears.losses import greatest_loss, losses_from
from movedyears.pairs import left_from
from movedyears.rules import parse_rules
from movedyears.subsidies import cheapest_takers, flat_subsidy, is_free, subsidies, subsidized
from samples import careers, machine_of, random_case, random_rules, shown, still


def falling(many):
    """Return a machine that leads from state to state by "a", stays by "b", and loses by each year."""
    return machine_of(["a", "b"], [([min(state + 1, many - 1), state], [-9, -9], 0) for state in range(many)])


class Subsidies(unittest.TestCase):
    def check(self, machine, other, carry, sums):
        told = subsidies(machine, other, carry)
        self.assertIs(type(told), list)
        self.assertEqual(told, sums)
        self.assertEqual(flat_subsidy(machine, other, carry), max(sums))

    def check_endless(self, machine, other, carry):
        for function in (subsidies, flat_subsidy):
            with self.assertRaises(Endless):
                function(machine, other, carry)

    def test_losses_below_0_at_0_and_above(self):
        costs = [-5, -1, 0, 1, 7]
        machine = falling(5)
        carry = Carry([0] * 5, costs)
        self.assertEqual(losses_from(machine, still("ab"), carry), costs)
        self.check(machine, still("ab"), carry, [0, 0, 0, 1, 7])

    def test_all_losses_below_0(self):
        self.check(falling(2), still("ab"), Carry([0, 0], [-3, -8]), [0, 0])

    def test_all_losses_at_0(self):
        self.check(falling(2), still("ab"), Carry([0, 0], [0, 0]), [0, 0])

    def test_the_flat_one_is_that_of_the_dearest_state(self):
        self.check(falling(3), still("ab"), Carry([0] * 3, [2, 11, 3]), [2, 11, 3])
        self.check(falling(3), still("ab"), Carry([0] * 3, [12, 11, 3]), [12, 11, 3])

    def test_states_that_are_not_come_to(self):
        rows = [([0, 2], [-1, -1], 1), ([1, 1], [-1, -1], 900), ([2, 0], [-1, -1], 4)]
        self.check(machine_of(["a", "b"], rows), still("ab"), Carry([0] * 3, [0, 900, 0]), [3, 0, 4])

    def test_a_loss_that_grows_without_end(self):
        rows = [([1, 0], [-1, -1], 0), ([1, 1], [0, 1], -900)]
        self.check_endless(machine_of(["a", "b"], rows), still("ab"), Carry([0, 0], [-900, -900]))
        # Only behind a move from the second state, into a state of its own, it grows so.
        other = machine_of(["a", "b"], [([0, 0], [0, 0], 0), ([1, 1], [-10, 0], 0)])
        machine = falling(2)
        self.check_endless(machine, other, Carry([0, 1], [0, 0]))
        self.check(machine, other, Carry([0, 0], [0, 0]), [0, 0])

    def test_it_would_only_grow_for_a_state_that_is_not_come_to(self):
        rows = [([0, 0], [-1, -1], 3), ([1, 1], [1, 1], 1)]
        self.check(machine_of(["a", "b"], rows), still("ab"), Carry([0, 0], [0, 0]), [3, 0])

    def test_against_all_careers(self):
        rng = random.Random(71)
        kinds = [0, 0]
        for turn in range(150):
            machine, other, carry = random_case(rng, ["a", "b"], turn)
            losses = losses_from(machine, other, carry)
            kinds[None in losses] += 1
            if None in losses:
                self.check_endless(machine, other, carry)
                continue
            sums = [max(0, one) if state in left_from(machine) else 0 for state, one in enumerate(losses)]
            self.check(machine, other, carry, sums)
            paid = subsidized(carry, sums)
            for career in careers("ab", 5):
                for year in range(len(career) + 1):
                    self.assertLessEqual(loss(machine, other, paid, career, year), 0)
        self.assertGreater(min(kinds), 30)


class Subsidized(unittest.TestCase):
    def test_the_costs_are_lessened(self):
        carry = subsidized(Carry([2, 0, 1], [5, -1, 0]), [3, 0, -4])
        self.assertIs(type(carry), Carry)
        self.assertEqual((carry.to, carry.cost), ([2, 0, 1], [2, -1, 4]))

    def test_what_is_passed_in_is_not_changed(self):
        carry, sums = Carry([0, 1], [5, 6]), [1, 2]
        paid = subsidized(carry, sums)
        paid.to.clear()
        paid.cost.append(9)
        self.assertEqual((carry.to, carry.cost, sums), ([0, 1], [5, 6], [1, 2]))

    def test_with_the_least_subsidies_it_is_free_and_with_less_it_is_not(self):
        rng = random.Random(72)
        lessened = 0
        for turn in range(150):
            machine, other, carry = random_case(rng, ["a", "b"], turn)
            if greatest_loss(machine, other, carry) is None:
                continue
            sums = subsidies(machine, other, carry)
            self.assertIs(is_free(machine, other, subsidized(carry, sums)), True)
            flat = [flat_subsidy(machine, other, carry)] * machine.many()
            self.assertIs(is_free(machine, other, subsidized(carry, flat)), True)
            for state, one in enumerate(sums):
                if one > 0:
                    less = sums[:state] + [one - 1] + sums[state + 1:]
                    self.assertIs(is_free(machine, other, subsidized(carry, less)), False)
                    lessened += 1
        self.assertGreater(lessened, 50)


class Free(unittest.TestCase):
    def test_by_the_greatest_loss(self):
        machine = falling(2)
        for costs, free in (([-1, -2], True), ([0, -2], True), ([-2, 0], True), ([1, -5], False), ([-5, 1], False)):
            self.assertIs(is_free(machine, still("ab"), Carry([0, 0], costs)), free)

    def test_a_loss_that_grows_without_end(self):
        machine = machine_of(["a"], [([0], [1], 0)])
        self.assertIs(is_free(machine, still("a"), Carry([0], [-1000])), False)

    def test_states_that_are_not_come_to(self):
        machine = machine_of(["a"], [([0], [0], 0), ([1], [5], 0)])
        self.assertIs(is_free(machine, still("a"), Carry([0, 0], [0, 900])), True)


class CheapestTakers(unittest.TestCase):
    def check(self, machine, other, carry, takers):
        told = cheapest_takers(machine, other, carry)
        self.assertIs(type(told), list)
        self.assertEqual(told, takers)

    def test_the_one_with_the_least_loss(self):
        other = machine_of(["a", "b"], [([0, 0], [0, 0], 0), ([1, 1], [0, 0], 5), ([2, 2], [0, 0], 3)])
        self.check(falling(2), other, Carry([0, 2], [4, -4]), [1, 1])
        other = machine_of(["a", "b"], [([0, 0], [0, 0], 0), ([1, 1], [0, 0], 5), ([2, 2], [0, 0], 7)])
        self.check(falling(2), other, Carry([0, 0], [4, -4]), [2, 2])

    def test_each_state_has_its_own(self):
        # From state 0 on "a" pays, from state 1 on "b" does; 0 and 1 of the second machine pay for it.
        machine = machine_of(["a", "b"], [([2, 1], [5, -9], 0), ([2, 2], [-9, 5], 0), ([2, 2], [-1, -1], 0)])
        rows = [([2, 2], [0, 5], 0), ([2, 2], [5, 0], 0), ([2, 2], [0, 0], 0)]
        self.check(machine, machine_of(["a", "b"], rows), Carry([2, 2, 2], [0, 0, 0]), [1, 0, 0])

    def test_the_first_of_several_that_are_equally_cheap(self):
        other = machine_of(["a", "b"], [([0, 0], [0, 0], 4), ([1, 1], [0, 0], 5), ([2, 2], [1, 1], 5)])
        self.check(falling(2), other, Carry([0, 0], [0, 0]), [1, 1])
        self.check(falling(2), still("ab"), Carry([0, 0], [0, 0]), [0, 0])

    def test_none_where_all_grow_without_end(self):
        machine = machine_of(["a", "b"], [([0, 1], [0, 0], 0), ([2, 2], [0, 0], 0), ([2, 2], [-3, -3], 0)])
        other = machine_of(["a", "b"], [([0, 0], [-1, -1], 9), ([1, 1], [-2, 0], 0)])
        self.check(machine, other, Carry([0] * 3, [-900] * 3), [None, 0, 0])
        rows = [([0, 0], [2, 2], 0), ([1, 1], [0, 0], 0)]
        self.check(machine_of(["a", "b"], rows), other, Carry([0, 0], [0, 0]), [None, None])

    def test_those_that_grow_without_end_are_left_out(self):
        other = machine_of(["a", "b"], [([0, 0], [-10, 0], 9), ([1, 1], [0, 0], -900), ([2, 2], [0, -10], 9)])
        self.check(falling(2), other, Carry([0, 0], [0, 0]), [1, 1])

    def test_states_that_are_not_come_to(self):
        machine = machine_of(["a"], [([2], [-1], 0), ([0], [-1], 0), ([2], [-1], 0)])
        self.check(machine, still("a"), Carry([0] * 3, [0] * 3), [0, None, 0])

    def test_against_each_state_of_the_second_machine(self):
        rng = random.Random(73)
        kinds = {None: 0, 0: 0, 1: 0}
        for turn in range(200):
            machine, other, carry = random_case(rng, ["a", "b"], turn)
            into = [Carry([taker] * machine.many(), carry.cost) for taker in range(other.many())]
            rows = [losses_from(machine, other, one) for one in into]
            takers = []
            for state in range(machine.many()):
                losses = [(row[state], taker) for taker, row in enumerate(rows) if row[state] not in (None, "never")]
                takers.append(min(losses)[1] if losses else None)
            self.check(machine, other, carry, takers)
            for taker in takers:
                kinds[taker] = kinds.get(taker, 0) + 1
        self.assertGreater(min(kinds.values()), 10)


class MachinesOfRules(unittest.TestCase):
    def test_written_out(self):
        text = "facts work pause\ncount years 20 work 1 pause reset\ngain 100 work if years >= 2 and years < 10"
        rules = parse_rules(text)
        other = parse_rules("facts work pause\ncount points 9 work 2\ngain 90 work if points >= 2")
        carry_rules = parse_carry("take points years less 1\ncost 10 if years < 5", rules, other)
        machine, second, carry = made_carry(rules, other, carry_rules)
        # Lost are 10 for each year up to the tenth, 90 for each one ahead of two points, and the cost.
        sums = [10, 90, 180, 80, 70, 50, 40, 30, 20, 10] + [0] * 11
        self.assertEqual(subsidies(machine, second, carry), sums)
        self.assertEqual(flat_subsidy(machine, second, carry), 180)
        # State 1 is the first one with two points, which make up for the most while there is something to lose.
        self.assertEqual(cheapest_takers(machine, second, carry), [0] + [1] * 9 + [0] * 11)

    def test_random_rules(self):
        rng = random.Random(74)
        kinds = [0, 0]
        for _ in range(120):
            rules = random_rules(rng, ["work", "pause"], ["x"])
            other = random_rules(rng, ["work", "pause"], ["y"])
            carry_rules = CarryRules([("y", "x", rng.randint(0, 2))], [(rng.randint(-9, 9), [("x", "<", 2)])])
            machine, second, carry = made_carry(rules, other, carry_rules)
            endless = greatest_loss(machine, second, carry) is None
            kinds[endless] += 1
            if endless:
                with self.assertRaises(Endless):
                    subsidies(machine, second, carry)
                continue
            paid = subsidized(carry, subsidies(machine, second, carry))
            self.assertIs(is_free(machine, second, paid), True)
            for career in careers(machine.facts, 5):
                for year in range(len(career) + 1):
                    self.assertLessEqual(loss(machine, second, paid, career, year), 0)
        self.assertGreater(min(kinds), 15)


class Unchanged(unittest.TestCase):
    def test_what_is_passed_in_is_not_changed(self):
        rows = [([1, 0], [-2, -1], 3), ([1, 0], [-1, -4], 6), ([0, 1], [0, 0], 9)]
        machine, other = machine_of(["a", "b"], rows), still("ab")
        carry = Carry([0] * 3, [5, 2, 1])
        before = copy.deepcopy((shown(machine), shown(other), carry.to, carry.cost))
        for function in (subsidies, cheapest_takers):
            function(machine, other, carry).clear()
        flat_subsidy(machine, other, carry)
        is_free(machine, other, carry)
        self.assertEqual((shown(machine), shown(other), carry.to, carry.cost), before)
        self.assertEqual(len(subsidies(machine, other, carry)), 3)


if __name__ == "__main__":
    unittest.main()
