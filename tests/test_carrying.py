"""Moves, carries and losses, points [13], [15] and [16]."""

import copy
import random
import unittest

from movedyears.carrying import (
    Carry, CarryRules, carried_counts, loss, made_carry, move_cost, moved, parse_carry,
)
from movedyears.errors import NoSuchYear, UnknownFact, UnlikeFacts
from movedyears.machines import Machine, made, year_counts, year_gain, leave_gain, first_counts
from movedyears.rules import Rules, parse_rules
from movedyears.runs import total
from samples import careers, fields, machine_of, random_carry, random_machine, random_rules, shown

OTHER = Rules(["a"], [("e", 3, {}), ("f", 20, {}), ("g", 1, {})], [], [])


class CarriedCounts(unittest.TestCase):
    def taken(self, number, value):
        return carried_counts(CarryRules([("e", "c", number)], []), {"c": value}, OTHER)["e"]

    def test_below_0_at_0_between_at_the_cap_and_above_it(self):
        self.assertEqual([self.taken(0, value) for value in range(7)], [0, 1, 2, 3, 3, 3, 3])
        self.assertEqual([self.taken(2, value) for value in range(8)], [0, 0, 0, 1, 2, 3, 3, 3])
        self.assertEqual([self.taken(20, value) for value in (0, 10, 19, 20)], [0, 0, 0, 0])
        self.assertEqual([self.taken(17, value) for value in (16, 17, 18, 19, 20)], [0, 0, 1, 2, 3])

    def test_each_value_and_number(self):
        for number in range(21):
            for value in range(21):
                left = value - number
                self.assertEqual(self.taken(number, value), 0 if left < 0 else left if left < 3 else 3)

    def test_counters_that_are_not_taken_become_0(self):
        counts = {"c": 5, "d": 7}
        self.assertEqual(carried_counts(CarryRules([], []), counts, OTHER), {"e": 0, "f": 0, "g": 0})
        self.assertEqual(carried_counts(CarryRules([("f", "d", 1)], []), counts, OTHER), {"e": 0, "f": 6, "g": 0})

    def test_several_takes(self):
        takes = [("g", "c", 0), ("f", "c", 1), ("e", "d", 5)]
        carried = carried_counts(CarryRules(takes, [(5, [])]), {"c": 5, "d": 7}, OTHER)
        self.assertEqual(list(carried.items()), [("e", 2), ("f", 4), ("g", 1)])

    def test_the_same_name_in_both_schemes(self):
        other = Rules(["a"], [("c", 9, {}), ("d", 9, {})], [], [])
        carried = carried_counts(CarryRules([("d", "c", 0)], []), {"c": 2, "d": 7}, other)
        self.assertEqual(carried, {"c": 0, "d": 2})

    def test_no_counters(self):
        plain = Rules(["a"], [], [], [])
        self.assertEqual(carried_counts(CarryRules([], []), {}, plain), {})
        self.assertEqual(carried_counts(CarryRules([], []), {}, OTHER), {"e": 0, "f": 0, "g": 0})

    def test_what_is_passed_in_is_not_changed(self):
        carry_rules, counts = CarryRules([("e", "c", 1)], []), {"c": 5}
        before = copy.deepcopy(fields(OTHER))
        carried_counts(carry_rules, counts, OTHER)["e"] = 9
        self.assertEqual(carried_counts(carry_rules, counts, OTHER)["e"], 3)
        self.assertEqual((carry_rules.takes, counts), ([("e", "c", 1)], {"c": 5}))
        self.assertEqual(fields(OTHER), before)


class MoveCost(unittest.TestCase):
    def test_without_costs(self):
        self.assertEqual(move_cost(CarryRules([("e", "c", 1)], []), {"c": 3}), 0)

    def test_costs_whose_conditions_hold(self):
        costs = [(1, []), (20, [("c", ">=", 2)]), (-300, [("c", "<", 3), ("d", ">=", 1)]), (20, [("c", ">=", 2)])]
        carry_rules = CarryRules([], costs)
        self.assertEqual([move_cost(carry_rules, {"c": value, "d": 0}) for value in range(5)], [1, 1, 41, 41, 41])
        paid = [move_cost(carry_rules, {"c": value, "d": 1}) for value in range(5)]
        self.assertEqual(paid, [-299, -299, -259, 41, 41])

    def test_what_is_passed_in_is_not_changed(self):
        carry_rules, counts = CarryRules([], [(1, [("c", "<", 2)])]), {"c": 1}
        move_cost(carry_rules, counts)
        self.assertEqual((carry_rules.costs, counts), ([(1, [("c", "<", 2)])], {"c": 1}))


class Fields(unittest.TestCase):
    def test_fields(self):
        carry = Carry([1, 0], [5, -5])
        self.assertEqual((carry.to, carry.cost), ([1, 0], [5, -5]))
        carry = Carry(cost=[5], to=[1])
        self.assertEqual((carry.to, carry.cost), ([1], [5]))

    def test_what_is_passed_in_is_neither_kept_nor_changed(self):
        to, cost = [1, 0], [5, -5]
        carry = Carry(to, cost)
        to[0] = 3
        cost.clear()
        self.assertEqual((carry.to, carry.cost), ([1, 0], [5, -5]))
        carry.to.clear()
        carry.cost.append(1)
        self.assertEqual((to, cost), ([3, 0], []))


FIRST_TEXT = "facts a b\ncount n 4 a 1 b reset\ngain 10 a if n >= 2\nleave 100 if n >= 4"
OTHER_TEXT = "facts a b\ncount m 6 a 2\ngain 20 a if m >= 5\ngain -3 b\nleave 50 if m < 3"


class MadeCarry(unittest.TestCase):
    def test_the_machines_and_the_carry(self):
        rules, other = parse_rules(FIRST_TEXT), parse_rules(OTHER_TEXT)
        answer = made_carry(rules, other, parse_carry("take m n less 1\ncost 7\ncost 30 if n >= 3", rules, other))
        self.assertIs(type(answer), tuple)
        machine, second, carry = answer
        self.assertEqual(shown(machine), shown(made(rules)[0]))
        # The second machine: m is 0, 2, 4, 6 from the beginning; 1, with 3 and 5 from it on, is carried only.
        steps = [[1, 0], [2, 1], [3, 2], [3, 3], [5, 4], [6, 5], [3, 6]]
        gains = [[0, -3]] * 3 + [[20, -3]] + [[0, -3]] * 2 + [[20, -3]]
        leaves = [50, 50, 0, 0, 50, 0, 0]
        self.assertEqual(shown(second), shown(machine_of(["a", "b"], list(zip(steps, gains, leaves)))))
        self.assertIsInstance(carry, Carry)
        self.assertEqual(carry.to, [0, 0, 4, 1, 5])
        self.assertEqual(carry.cost, [7, 7, 7, 37, 37])

    def test_carried_values_are_further_beginnings_in_the_order_of_the_states(self):
        rules = parse_rules("facts a\ncount n 9 a 1")
        other = parse_rules("facts a\ncount m 20\nleave 1 if m >= 3")
        machine, second, carry = made_carry(rules, other, CarryRules([("m", "n", 3)], []))
        self.assertEqual(carry.to, [0, 0, 0, 0, 1, 2, 3, 4, 5, 6])
        self.assertEqual(second.leave, [0, 0, 0, 1, 1, 1, 1])
        rules = parse_rules("facts a\ncount n 9 a 4")
        self.assertEqual(made_carry(rules, other, CarryRules([("m", "n", 0)], []))[2].to, [0, 1, 2, 3])
        other = parse_rules("facts a\ncount m 9 a 5")
        machine, second, carry = made_carry(rules, other, CarryRules([("m", "n", 0)], []))
        self.assertEqual(carry.to, [0, 3, 4, 2])
        self.assertEqual(second.step, [{"a": 1}, {"a": 2}, {"a": 2}, {"a": 2}, {"a": 2}])

    def test_carried_values_that_were_met_already(self):
        rules, other = parse_rules(FIRST_TEXT), parse_rules(OTHER_TEXT)
        machine, second, carry = made_carry(rules, other, CarryRules([], []))
        self.assertEqual(shown(second), shown(made(other)[0]))
        self.assertEqual((carry.to, carry.cost), ([0] * 5, [0] * 5))

    def test_schemes_without_counters(self):
        rules, other = parse_rules("facts a\ngain 1 a"), parse_rules("facts a\nleave 5")
        machine, second, carry = made_carry(rules, other, CarryRules([], [(3, [])]))
        self.assertEqual(shown(machine), (["a"], [{"a": 0}], [{"a": 1}], [0]))
        self.assertEqual(shown(second), (["a"], [{"a": 0}], [{"a": 0}], [5]))
        self.assertEqual((carry.to, carry.cost), ([0], [3]))

    def test_unlike_facts(self):
        for facts in ("b", "a", "b a", "a b c", "a c", "c a b"):
            rules, other = parse_rules("facts a b"), parse_rules("facts " + facts)
            for first, second in ((rules, other), (other, rules)):
                with self.assertRaises(UnlikeFacts):
                    made_carry(first, second, CarryRules([], []))

    def test_what_is_passed_in_is_not_changed(self):
        rules, other = parse_rules(FIRST_TEXT), parse_rules(OTHER_TEXT)
        carry_rules = parse_carry("take m n less 1\ncost 7 if n < 2", rules, other)
        before = copy.deepcopy((fields(rules), fields(other), carry_rules.takes, carry_rules.costs))
        first, second, carry = made_carry(rules, other, carry_rules)
        first.facts.clear()
        second.facts.clear()
        carry.to.clear()
        self.assertEqual((fields(rules), fields(other), carry_rules.takes, carry_rules.costs), before)
        self.assertEqual(made_carry(rules, other, carry_rules)[2].to, [0, 0, 4, 1, 5])

    def test_random_carries(self):
        rng = random.Random(8)
        for _ in range(60):
            rules = random_rules(rng, ["a", "b"], ["x", "y"])
            other = random_rules(rng, ["a", "b"], ["y", "z"])
            carry_rules = random_carry_rules(rng)
            machine, second, carry = made_carry(rules, other, carry_rules)
            counts = made(rules)[1]
            carried = [carried_counts(carry_rules, row, other) for row in counts]
            expected, others = made(other, carried)
            self.assertEqual(shown(machine), shown(made(rules)[0]))
            self.assertEqual(shown(second), shown(expected))
            self.assertEqual([others[state] for state in carry.to], carried)
            self.assertEqual(carry.cost, [move_cost(carry_rules, row) for row in counts])


def random_carry_rules(rng):
    """Return carrying rules from the counters x and y to y and z."""
    takes = [(name, rng.choice(["x", "y"]), rng.randint(0, 3)) for name in ("y", "z") if rng.random() < 0.7]
    tests = [("x", rng.choice([">=", "<"]), rng.randint(0, 4)) for _ in range(rng.randint(0, 3))]
    costs = [(rng.randint(-9, 9), [test]) for test in tests]
    return CarryRules(takes, costs)


def sample():
    """Return two machines and a carry, with amounts that are all different."""
    machine = machine_of(["a", "b"], [([1, 0], [1, 2], 1000), ([0, 2], [4, 8], 2000), ([2, 1], [16, 32], 4000)])
    other = machine_of(["a", "b"], [([0, 1], [-10, -20], 70), ([1, 0], [-40, -80], 90)])
    return machine, other, Carry([1, 0, 1], [100000, 200000, 400000])


class Moved(unittest.TestCase):
    def test_each_year(self):
        machine, other, carry = sample()
        career = ["a", "b", "b"]
        got = [moved(machine, other, carry, career, year) for year in range(4)]
        # Carried behind 0 years: -40 -80 -20 and 90; behind 1: 1 and -20 -80 and 70; and so on.
        self.assertEqual(got, [-100000 - 140 + 90, 1 - 200000 - 100 + 70, 9 - 400000 - 80 + 70, 41 - 200000 + 70])
        stays = 1 + 8 + 32 + 2000
        self.assertEqual(total(machine, 0, career), stays)
        self.assertEqual([loss(machine, other, carry, career, year) for year in range(4)], [stays - one for one in got])

    def test_the_empty_career(self):
        machine, other, carry = sample()
        self.assertEqual(moved(machine, other, carry, [], 0), 90 - 100000)
        self.assertEqual(loss(machine, other, carry, [], 0), 1000 - (90 - 100000))

    def test_by_the_rules(self):
        rng = random.Random(9)
        for _ in range(25):
            rules = random_rules(rng, ["a", "b"], ["x", "y"])
            other = random_rules(rng, ["a", "b"], ["y", "z"])
            carry_rules = random_carry_rules(rng)
            machine, second, carry = made_carry(rules, other, carry_rules)
            for career in careers(["a", "b"], 5):
                for year in range(len(career) + 1):
                    got = gotten(rules, other, carry_rules, career, year)
                    self.assertEqual(moved(machine, second, carry, career, year), got)
                    lost = total(machine, 0, career) - got
                    self.assertEqual(loss(machine, second, carry, career, year), lost)

    def test_states_that_are_not_come_to(self):
        rng = random.Random(10)
        for _ in range(20):
            machine, other = random_machine(rng, ["a", "b"], 4, 9), random_machine(rng, ["a", "b"], 3, 9)
            carry = random_carry(rng, machine, other, 9)
            for career in careers(["a", "b"], 4):
                state, got = 0, 0
                for year in range(len(career) + 1):
                    rest = total(other, carry.to[state], career[year:])
                    self.assertEqual(moved(machine, other, carry, career, year), got - carry.cost[state] + rest)
                    if year < len(career):
                        got += machine.gain[state][career[year]]
                        state = machine.step[state][career[year]]

    def test_what_is_passed_in_is_not_changed(self):
        machine, other, carry = sample()
        career = ["a", "b", "b"]
        before = copy.deepcopy((shown(machine), shown(other), carry.to, carry.cost))
        moved(machine, other, carry, career, 1)
        loss(machine, other, carry, career, 2)
        self.assertEqual((shown(machine), shown(other), carry.to, carry.cost), before)
        self.assertEqual(career, ["a", "b", "b"])


def gotten(rules, other, carry_rules, career, year):
    """Return what a member who moves gets, by the values of the counters instead of by machines."""
    counts, got = first_counts(rules), 0
    for fact in career[:year]:
        got += year_gain(rules, counts, fact)
        counts = year_counts(rules, counts, fact)
    got -= move_cost(carry_rules, counts)
    counts = carried_counts(carry_rules, counts, other)
    for fact in career[year:]:
        got += year_gain(other, counts, fact)
        counts = year_counts(other, counts, fact)
    return got + leave_gain(other, counts)


class Errors(unittest.TestCase):
    def check(self, error, field, value, career, year):
        machine, other, carry = sample()
        for function in (moved, loss):
            with self.subTest(function=function, career=career, year=year):
                with self.assertRaises(error) as caught:
                    function(machine, other, carry, career, year)
                self.assertEqual(vars(caught.exception), {field: value})

    def test_no_such_year(self):
        for career in ([], ["a"], ["a", "b", "b"]):
            for year in (-1, -2, -5, len(career) + 1, len(career) + 2, 1000):
                self.check(NoSuchYear, "year", year, career, year)

    def test_unknown_fact(self):
        for year in range(3):
            self.check(UnknownFact, "fact", "c", ["c", "d"], year)
            self.check(UnknownFact, "fact", "d", ["a", "d"], year)
        for year in range(5):
            self.check(UnknownFact, "fact", "x", ["a", "x", "b", "y"], year)

    def test_no_such_year_ahead_of_unknown_fact(self):
        for year in (-1, 3, 4):
            self.check(NoSuchYear, "year", year, ["c", "d"], year)
            self.check(NoSuchYear, "year", year, ["a", "d"], year)

    def test_machines_without_facts(self):
        machine = Machine([], [{}], [{}], [5])
        self.assertEqual(moved(machine, machine, Carry([0], [2]), [], 0), 3)
        with self.assertRaises(UnknownFact):
            moved(machine, machine, Carry([0], [2]), ["a"], 1)


if __name__ == "__main__":
    unittest.main()
