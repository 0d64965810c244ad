"""When to move: the best year, what one can be sure of and best means, points [25] to [27]."""

import copy
import itertools
import math
import random
import unittest
from fractions import Fraction

from movedyears.carrying import Carry, CarryRules, made_carry, moved
from movedyears.errors import UnknownFact
from movedyears.machines import made
from movedyears.moments import (
    best_year, common_divisor, expected, guaranteed, mean_of, mean_sums, worst_sums,
)
from movedyears.runs import total
from samples import careers, machine_of, random_carry, random_machine, random_rules, shown, still


def random_two(rng, facts, most=4):
    """Return two machines and a carry."""
    machine = random_machine(rng, facts, rng.randint(1, 4), most)
    other = random_machine(rng, facts, rng.randint(1, 3), most)
    return machine, other, random_carry(rng, machine, other, most)


def of_rules(rng, facts):
    """Return the machines of two random rules and a carry."""
    rules, other = random_rules(rng, facts, ["x"]), random_rules(rng, facts, ["y"])
    takes = [("y", "x", rng.randint(0, 2))]
    return made_carry(rules, other, CarryRules(takes, [(rng.randint(-9, 9), [("x", ">=", 1)])]))


def decided(machine, other, carry, state, years, judge):
    """Return the best of all ways to decide, and whether it is to move.

    The judge gets what each fact leads to, by facts, and returns what that is worth.
    """
    def worth(one, place, left, behind):
        if left == 0:
            return one.leave[place]
        return judge({fact: one.gain[place][fact] + behind(one.step[place][fact], left - 1) for fact in one.facts})

    def moves(place, left):
        return worth(other, place, left, moves)

    def best(place, left):
        return max(worth(machine, place, left, best), moves(carry.to[place], left) - carry.cost[place])

    moving = moves(carry.to[state], years) - carry.cost[state]
    return best(state, years), moving > worth(machine, state, years, best)


def all_plans(facts):
    """Return all plans for two years: they tell, by the facts so far, whether to move now."""
    histories = [()] + [(fact,) for fact in facts] + list(itertools.product(facts, repeat=2))
    return [dict(zip(histories, plan)) for plan in itertools.product([False, True], repeat=len(histories))]


def by_plan(machine, other, carry, career, plan):
    """Return what a plan gives on a career."""
    for year in range(len(career) + 1):
        if plan[career[:year]]:
            return moved(machine, other, carry, list(career), year)
    return total(machine, 0, list(career))


class BestYear(unittest.TestCase):
    def check(self, machine, other, carry, career, told):
        found = best_year(machine, other, carry, career)
        self.assertIs(type(found), tuple)
        self.assertEqual(found, told)

    def test_the_best_of_the_years(self):
        machine = machine_of(["a"], [([1], [5], 0), ([2], [4], 0), ([2], [0], 1)])
        other = machine_of(["a"], [([0], [2], 3)])
        self.check(machine, other, Carry([0] * 3, [0] * 3), ["a"] * 4, (5 + 4 + 2 + 2 + 3, 2))
        self.check(machine, other, Carry([0] * 3, [0, 0, 3]), ["a"] * 4, (5 + 2 * 3 + 3, 1))
        self.check(machine, other, Carry([0] * 3, [0, 5, 9]), ["a"] * 4, (2 * 4 + 3, 0))

    def test_moving_behind_the_last_year(self):
        machine = machine_of(["a"], [([0], [5], 0)])
        self.check(machine, machine_of(["a"], [([0], [0], 9)]), Carry([0], [8]), ["a"] * 3, (16, 3))

    def test_none_where_staying_gives_as_much(self):
        machine = machine_of(["a"], [([0], [5], 4)])
        self.check(machine, machine, Carry([0], [0]), ["a"] * 3, (19, None))
        self.check(machine, machine, Carry([0], [1]), ["a"] * 3, (19, None))
        self.check(machine, machine, Carry([0], [-1]), ["a"] * 3, (20, 0))

    def test_none_where_staying_gives_more(self):
        machine = machine_of(["a", "b"], [([0, 0], [-5, -6], 0)])
        self.check(machine, still("ab"), Carry([0], [30]), ["a", "b"], (-11, None))

    def test_the_first_of_several_years(self):
        machine = machine_of(["a", "b"], [([0, 0], [0, 1], 0)])
        self.check(machine, still("ab"), Carry([0], [-2]), ["a", "a", "a"], (2, 0))
        self.check(machine, still("ab"), Carry([0], [-2]), ["a", "b", "a", "a"], (3, 2))
        # What is gotten in years 1 and 3 is the same, and year 0 is behind by one.
        machine = machine_of(["a"], [([1], [3], 0), ([2], [0], 0), ([3], [7], 0), ([3], [0], 0)])
        other = machine_of(["a"], [([0], [2], 0), ([2], [9], 0), ([0], [0], 0)])
        self.check(machine, other, Carry([0, 0, 0, 0], [0, 0, 9, 5]), ["a"] * 3, (10, None))
        self.check(machine, other, Carry([0, 2, 0, 0], [0, -7, 9, -2]), ["a"] * 3, (12, 1))
        self.check(machine, other, Carry([0, 2, 0, 0], [0, -7, 9, -3]), ["a"] * 3, (13, 3))

    def test_those_who_meet_at_a_state(self):
        # Whoever moves goes to the one state; who moved first got as much, and has paid less.
        machine = machine_of(["a"], [([1], [0], 0), ([2], [1], 0), ([2], [0], 0)])
        other = machine_of(["a"], [([1], [1], 0), ([1], [1], 5), ([1], [0], 5)])
        self.check(machine, other, Carry([0, 1, 2], [0, 0, 0]), ["a", "a"], (7, 0))
        self.check(machine, other, Carry([0, 1, 2], [1, 0, 0]), ["a", "a"], (6, 0))
        self.check(machine, other, Carry([0, 1, 2], [2, 0, 0]), ["a", "a"], (6, 1))

    def test_the_empty_career(self):
        machine = machine_of(["a"], [([0], [5], 4)])
        other = machine_of(["a"], [([0], [5], 0), ([0], [5], 7)])
        self.check(machine, other, Carry([1], [2]), [], (5, 0))
        self.check(machine, other, Carry([1], [3]), [], (4, None))
        self.check(machine, other, Carry([1], [4]), [], (4, None))
        self.check(machine, other, Carry([0], [0]), [], (4, None))

    def test_unknown_facts(self):
        machine, other, carry = still("ab"), still("ab"), Carry([0], [0])
        for career in (["c"], ["a", "b", "d", "c"], ["d", "a"], ["a", "A"], [""]):
            with self.assertRaises(UnknownFact) as caught:
                best_year(machine, other, carry, career)
            self.assertEqual(caught.exception.fact, [fact for fact in career if fact not in "a b".split()][0])

    def test_the_facts_of_the_first_machine_are_asked(self):
        with self.assertRaises(UnknownFact) as caught:
            best_year(still("a"), still("ac"), Carry([0], [0]), ["c", "b"])
        self.assertEqual(caught.exception.fact, "c")

    def check_all(self, machine, other, carry, career):
        best, first = total(machine, 0, career), None
        for year in range(len(career) + 1):
            if moved(machine, other, carry, career, year) > best:
                best, first = moved(machine, other, carry, career, year), year
        self.check(machine, other, carry, career, (best, first))
        return first

    def test_against_all_years_of_moving(self):
        rng = random.Random(81)
        found = []
        for _ in range(60):
            machine, other, carry = random_two(rng, ["b", "a"])
            found.extend([self.check_all(machine, other, carry, career) for career in careers(["b", "a"], 5)])
        for first in (None, 0, 1, 2, 3, 4, 5):
            self.assertGreater(found.count(first), 10)

    def test_machines_of_rules(self):
        rng = random.Random(82)
        for _ in range(30):
            machine, other, carry = of_rules(rng, ["work", "pause"])
            for career in careers(["work", "pause"], 4):
                self.check_all(machine, other, carry, career)

    def test_a_long_career(self):
        machine = machine_of(["a", "b"], [([0, 1], [3, 0], 0), ([1, 1], [0, 0], 0)])
        other = machine_of(["a", "b"], [([0, 1], [2, 2], 0), ([1, 0], [2, 2], 0)])
        career = ["a"] * 4000 + ["b", "a"] * 3000
        self.check(machine, other, Carry([1, 0], [7, 7]), career, (3 * 4000 + 2 * 6000 - 7, 4000))


class Sure(unittest.TestCase):
    def check(self, machine, other, carry, rows):
        told = guaranteed(machine, other, carry, len(rows) - 1)
        self.assertEqual(told, rows)
        for row in [told] + told:
            self.assertIs(type(row), list)
        for row in told:
            for one in row:
                self.assertIs(type(one), tuple)
                self.assertIs(type(one[1]), bool)

    def test_no_years_left(self):
        machine = machine_of(["a"], [([0], [5], 4), ([0], [5], 1), ([0], [5], 9)])
        other = machine_of(["a"], [([0], [5], 6), ([0], [5], 0)])
        self.check(machine, other, Carry([0, 0, 1], [2, 2, 0]), [[(4, False), (4, True), (9, False)]])
        self.check(machine, other, Carry([0, 0, 1], [1, 6, -9]), [[(5, True), (1, False), (9, False)]])

    def test_one_year_and_more(self):
        machine = machine_of(["a", "b"], [([1, 0], [4, 2], 0), ([1, 0], [0, 1], 1)])
        other = machine_of(["a", "b"], [([0, 0], [1, 3], 0)])
        rows = [
            [(0, False), (1, False)],
            # At state 1 "a" brings 0 and leaves 1, moving brings at least 1 and costs 0.
            [(2, False), (1, False)],
            [(4, False), (2, True)],
            [(6, False), (3, True)],
        ]
        self.check(machine, other, Carry([0, 0], [0, 0]), rows)

    def test_moving_and_staying_make_sure_of_the_same(self):
        machine = machine_of(["a", "b"], [([0, 0], [3, 5], 2)])
        other = machine_of(["a", "b"], [([0, 0], [9, 3], 2)])
        self.check(machine, other, Carry([0], [0]), [[(2, False)], [(5, False)], [(8, False)]])
        self.check(machine, other, Carry([0], [1]), [[(2, False)], [(5, False)], [(8, False)]])
        # To stay for now is to move later, which makes sure of as much.
        self.check(machine, other, Carry([0], [-1]), [[(3, True)], [(6, False)], [(9, False)]])
        other = machine_of(["a", "b"], [([0, 0], [9, 4], 2)])
        self.check(machine, other, Carry([0], [0]), [[(2, False)], [(6, True)], [(10, True)]])

    def test_the_decision_may_wait_for_the_facts(self):
        # Behind "a" it is better to stay, behind "b" to move: none of both is sure ahead of the year.
        machine = machine_of(["a", "b"], [([1, 2], [0, 0], 0), ([1, 1], [5, 5], 0), ([2, 2], [-5, -5], 0)])
        other = machine_of(["a", "b"], [([1, 2], [0, 0], 0), ([1, 1], [-5, -5], 0), ([2, 2], [5, 5], 0)])
        carry = Carry([0, 1, 2], [0, 0, 0])
        told = guaranteed(machine, other, carry, 2)
        self.assertEqual(told[1], [(0, False), (5, False), (5, True)])
        self.assertEqual(told[2][0], (5, False))
        self.assertEqual(worst_sums(machine, 2)[0], -5)
        self.assertEqual(worst_sums(other, 2)[0], -5)

    def test_against_all_ways_to_decide(self):
        rng = random.Random(83)
        moves = 0
        for turn in range(60):
            machine, other, carry = random_two(rng, ["b", "a"]) if turn % 3 else of_rules(rng, ["b", "a"])
            told = guaranteed(machine, other, carry, 4)
            for years in range(5):
                for state in range(machine.many()):
                    best = decided(machine, other, carry, state, years, lambda found: min(found.values()))
                    self.assertEqual(told[years][state], best)
                    moves += best[1]
            self.assertEqual([len(row) for row in told], [machine.many()] * 5)
        self.assertGreater(moves, 100)

    def test_against_all_plans_and_all_facts(self):
        rng = random.Random(84)
        facts = ["b", "a"]
        plans = all_plans(facts)
        for _ in range(25):
            machine, other, carry = random_two(rng, facts)
            best = max(
                min(by_plan(machine, other, carry, career, plan) for career in itertools.product(facts, repeat=2))
                for plan in plans
            )
            self.assertEqual(guaranteed(machine, other, carry, 2)[2][0][0], best)


class WorstSums(unittest.TestCase):
    def test_written_out(self):
        machine = machine_of(["a", "b"], [([1, 0], [4, 2], 0), ([1, 0], [0, 1], 1)])
        self.assertEqual(worst_sums(machine, 0), [0, 1])
        self.assertEqual(worst_sums(machine, 1), [2, 1])
        self.assertEqual(worst_sums(machine, 2), [4, 1])
        self.assertEqual(worst_sums(machine, 3), [5, 1])

    def test_against_all_careers_of_so_many_years(self):
        rng = random.Random(85)
        for turn in range(40):
            machine = random_machine(rng, ["b", "a", "c"], rng.randint(1, 4), 9)
            if turn % 4 == 0:
                machine = made(random_rules(rng, ["b", "a", "c"], ["x"]))[0]
            for years in range(5):
                rows = [list(row) for row in itertools.product(machine.facts, repeat=years)]
                least = [min(total(machine, state, row) for row in rows) for state in range(machine.many())]
                told = worst_sums(machine, years)
                self.assertIs(type(told), list)
                self.assertEqual(told, least)

    def test_many_years(self):
        machine = machine_of(["a", "b"], [([1, 0], [4, 3], 0), ([0, 1], [-2, 3], 1)])
        self.assertEqual(worst_sums(machine, 1000), [1000, 999])
        self.assertEqual(worst_sums(machine, 1001), [1003, 998])


class Means(unittest.TestCase):
    def test_no_years_left(self):
        machine = machine_of(["a"], [([0], [5], 4), ([0], [5], 1)])
        other = machine_of(["a"], [([0], [5], 6)])
        self.assertEqual(expected(machine, other, Carry([0, 0], [2, 2]), {"a": 3}, 0), [[(4, False), (4, True)]])

    def test_times_the_power_of_the_sum_of_the_odds(self):
        machine = machine_of(["a", "b"], [([0, 1], [6, 0], 1), ([1, 1], [0, 0], 0)])
        other = machine_of(["a", "b"], [([0, 0], [2, 1], 0)])
        told = expected(machine, other, Carry([0, 0], [1, 1]), {"a": 1, "b": 2}, 2)
        # At state 1 staying brings nothing; moving brings 4 thirds a year, and costs 1.
        self.assertEqual([row[1] for row in told], [(0, False), (1, True), (15, True)])
        # At state 0: 1 on leaving; 6 + 1 by "a" and twice 0 by "b"; 3 * 6 + 7 by "a" and twice 1 by "b".
        self.assertEqual([row[0] for row in told], [(1, False), (7, False), (27, False)])

    def test_both_means_are_equal(self):
        machine = machine_of(["a", "b"], [([0, 0], [3, 5], 2)])
        other = machine_of(["a", "b"], [([0, 0], [5, 3], 2)])
        odds = {"a": 4, "b": 4}
        self.assertEqual(expected(machine, other, Carry([0], [0]), odds, 1), [[(2, False)], [(48, False)]])
        # To stay for now is to move later, which has the same mean.
        self.assertEqual(expected(machine, other, Carry([0], [-1]), odds, 1), [[(3, True)], [(56, False)]])
        self.assertEqual(expected(machine, other, Carry([0], [0]), {"a": 5, "b": 4}, 1), [[(2, False)], [(55, True)]])
        self.assertEqual(expected(machine, other, Carry([0], [0]), {"a": 4, "b": 5}, 1), [[(2, False)], [(55, False)]])

    def test_odds_of_0(self):
        machine = machine_of(["a", "b"], [([0, 1], [1, 900], 0), ([1, 1], [900, 900], 0)])
        told = expected(machine, still("ab"), Carry([0, 0], [0, 0]), {"a": 2, "b": 0}, 3)
        self.assertEqual([row[0] for row in told], [(0, False), (2, False), (8, False), (24, False)])
        self.assertEqual(mean_of(machine, still("ab"), Carry([0, 0], [0, 0]), {"a": 2, "b": 0}, 3), (3, 1))

    def random_odds(self, rng, facts):
        while True:
            odds = {fact: rng.choice([0, 1, 1, 2, 5]) for fact in facts}
            if any(odds.values()):
                return odds

    def test_against_all_ways_to_decide(self):
        rng = random.Random(86)
        moves, noughts = 0, 0
        for turn in range(60):
            machine, other, carry = random_two(rng, ["b", "a"]) if turn % 3 else of_rules(rng, ["b", "a"])
            odds = self.random_odds(rng, ["b", "a"])
            noughts += 0 in odds.values()
            told = expected(machine, other, carry, odds, 4)
            self.assertEqual([len(row) for row in told], [machine.many()] * 5)
            whole = sum(odds.values())

            def mean(found):
                return sum(Fraction(odds[fact], whole) * found[fact] for fact in found)

            for years in range(5):
                for state in range(machine.many()):
                    best, moving = decided(machine, other, carry, state, years, mean)
                    self.assertEqual(told[years][state], (best * whole ** years, moving))
                    self.assertIs(type(told[years][state][0]), int)
                    self.assertIs(type(told[years][state][1]), bool)
                    moves += moving
                best = Fraction(*mean_of(machine, other, carry, odds, years))
                self.assertEqual(best, Fraction(told[years][0][0], whole ** years))
        self.assertGreater(moves, 100)
        self.assertGreater(noughts, 5)

    def test_mean_sums_against_all_careers_by_their_weights(self):
        rng = random.Random(87)
        for turn in range(40):
            machine = random_machine(rng, ["b", "a", "c"], rng.randint(1, 4), 9)
            if turn % 4 == 0:
                machine = made(random_rules(rng, ["b", "a", "c"], ["x"]))[0]
            odds = self.random_odds(rng, machine.facts)
            for years in range(5):
                sums = [0] * machine.many()
                for row in itertools.product(machine.facts, repeat=years):
                    weight = math.prod(odds[fact] for fact in row)
                    for state in range(machine.many()):
                        sums[state] += weight * total(machine, state, list(row))
                told = mean_sums(machine, odds, years)
                self.assertIs(type(told), list)
                self.assertEqual(told, sums)

    def test_against_all_plans_by_the_weights_of_the_careers(self):
        rng = random.Random(88)
        facts = ["b", "a"]
        plans = all_plans(facts)
        for _ in range(20):
            machine, other, carry = random_two(rng, facts)
            odds = self.random_odds(rng, facts)
            weights = {row: odds[row[0]] * odds[row[1]] for row in itertools.product(facts, repeat=2)}
            best = max(
                sum(weight * by_plan(machine, other, carry, row, plan) for row, weight in weights.items())
                for plan in plans
            )
            self.assertEqual(expected(machine, other, carry, odds, 2)[2][0][0], best)


class MeanOf(unittest.TestCase):
    def check(self, gain, leave, odds, years, told):
        """Check the mean of a machine of one state, which nobody leaves."""
        machine = machine_of(["a", "b"], [([0, 0], gain, leave)])
        found = mean_of(machine, machine, Carry([0], [1]), odds, years)
        self.assertIs(type(found), tuple)
        self.assertEqual(found, told)

    def test_lowest_terms(self):
        self.check([1, 0], 0, {"a": 1, "b": 2}, 1, (1, 3))
        self.check([1, 0], 0, {"a": 2, "b": 2}, 1, (1, 2))
        self.check([1, 0], 0, {"a": 2, "b": 4}, 2, (2, 3))
        self.check([1, 3], 1, {"a": 3, "b": 3}, 3, (7, 1))
        self.check([5, 2], 1, {"a": 1, "b": 3}, 1, (15, 4))

    def test_numerators_below_0(self):
        self.check([-1, 0], 0, {"a": 1, "b": 2}, 1, (-1, 3))
        self.check([-1, 0], 0, {"a": 2, "b": 2}, 1, (-1, 2))
        self.check([-1, -1], -3, {"a": 2, "b": 2}, 4, (-7, 1))

    def test_a_numerator_of_0(self):
        self.check([1, -1], 0, {"a": 3, "b": 3}, 2, (0, 1))
        self.check([0, 0], 0, {"a": 1, "b": 6}, 3, (0, 1))
        self.check([5, 5], 0, {"a": 1, "b": 6}, 0, (0, 1))

    def test_a_denominator_of_1(self):
        self.check([1, 9], -4, {"a": 1, "b": 0}, 9, (5, 1))
        self.check([1, 9], 8, {"a": 3, "b": 4}, 0, (8, 1))

    def test_by_moving(self):
        other = machine_of(["a", "b"], [([0, 0], [2, 1], 0)])
        self.assertEqual(mean_of(still("ab"), other, Carry([0], [1]), {"a": 1, "b": 2}, 2), (5, 3))
        self.assertEqual(mean_of(still("ab"), other, Carry([0], [3]), {"a": 1, "b": 2}, 2), (0, 1))

    def test_many_years(self):
        self.check([1, 0], 0, {"a": 1, "b": 2}, 300, (100, 1))
        self.check([1, 0], 0, {"a": 1, "b": 2}, 301, (301, 3))


class CommonDivisor(unittest.TestCase):
    def test_common_divisors(self):
        for first, second, divisor in (
            (0, 0, 0), (0, 5, 5), (5, 0, 5), (7, 7, 7), (1, 9, 1), (8, 9, 1), (12, 18, 6), (18, 12, 6), (5, 15, 5),
            (2 ** 90, 6 ** 50, 2 ** 50),
        ):
            for one, two in itertools.product((first, -first), (second, -second)):
                self.assertEqual(common_divisor(one, two), divisor)

    def test_against_all_divisors(self):
        for first in range(-12, 13):
            for second in range(-12, 13):
                if (first, second) != (0, 0):
                    both = [one for one in range(1, 13) if first % one == 0 and second % one == 0]
                    self.assertEqual(common_divisor(first, second), max(both))


class Unchanged(unittest.TestCase):
    def test_what_is_passed_in_is_not_changed(self):
        machine, other, carry = random_two(random.Random(89), ["a", "b"])
        odds, career = {"a": 1, "b": 2}, ["a", "b", "b"]
        held = (shown(machine), shown(other), carry.to, carry.cost, odds, career)
        before = copy.deepcopy(held)
        best_year(machine, other, carry, career)
        for years in (0, 3):
            for rows in (guaranteed(machine, other, carry, years), expected(machine, other, carry, odds, years)):
                for row in rows:
                    row.clear()
                rows.clear()
            worst_sums(machine, years).clear()
            mean_sums(machine, odds, years).clear()
            mean_of(machine, other, carry, odds, years)
        self.assertEqual(held, before)


if __name__ == "__main__":
    unittest.main()
