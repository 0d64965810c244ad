"""Pairs, states that are come to, first shortest careers, point [17]."""

import copy
import random
import unittest

from movedyears.carrying import Carry
from movedyears.errors import UnlikeFacts
from movedyears.machines import Machine
from movedyears.pairs import Pairs, first_careers, left_from, moved_pairs
from movedyears.runs import state_after
from samples import careers, machine_of, random_carry, random_machine, shown


def told(pairs):
    """Return all that pairs tell."""
    return (pairs.facts, pairs.pairs, pairs.places, pairs.step, pairs.gain, pairs.end)


def first_machine():
    return machine_of(["a", "b"], [([1, 2], [1, 2], 10), ([0, 2], [3, 4], 20), ([2, 2], [5, 6], 30)])


def other_machine():
    return machine_of(["a", "b"], [([0, 1], [100, 200], 1000), ([1, 0], [300, 400], 2000)])


class Met(unittest.TestCase):
    def check(self, begins, met, steps):
        machine, other = first_machine(), other_machine()
        pairs = Pairs(machine, other, begins)
        self.assertEqual(pairs.facts, ["a", "b"])
        self.assertEqual(pairs.pairs, met)
        self.assertEqual(pairs.many(), len(met))
        self.assertEqual(pairs.places, {pair: place for place, pair in enumerate(met)})
        self.assertEqual(pairs.step, [dict(zip("ab", row)) for row in steps])
        for place, (first, second) in enumerate(met):
            ahead = {fact: machine.gain[first][fact] - other.gain[second][fact] for fact in "ab"}
            self.assertEqual(pairs.gain[place], ahead)
            self.assertEqual(pairs.end[place], machine.leave[first] - other.leave[second])
        self.assertEqual((len(pairs.gain), len(pairs.end)), (len(met), len(met)))
        for row in pairs.step + pairs.gain:
            self.assertEqual(list(row), ["a", "b"])

    def test_one_beginning(self):
        met = [(0, 0), (1, 0), (2, 1), (2, 0)]
        self.check([(0, 0)], met, [[1, 2], [0, 2], [2, 3], [3, 2]])
        self.check([(2, 1)], [(2, 1), (2, 0)], [[0, 1], [1, 0]])
        self.check([(0, 1)], [(0, 1), (1, 1), (2, 0), (2, 1)], [[1, 2], [0, 2], [2, 3], [3, 2]])

    def test_amounts(self):
        pairs = Pairs(first_machine(), other_machine(), [(0, 0)])
        gains = [{"a": -99, "b": -198}, {"a": -97, "b": -196}, {"a": -295, "b": -394}, {"a": -95, "b": -194}]
        self.assertEqual(pairs.gain, gains)
        self.assertEqual(pairs.end, [-990, -980, -1970, -970])

    def test_several_beginnings_stand_ahead_of_what_they_lead_to(self):
        self.check([(2, 0), (1, 1)], [(2, 0), (1, 1), (2, 1), (0, 1)], [[0, 2], [3, 0], [2, 0], [1, 0]])
        met = [(1, 0), (0, 1), (0, 0), (2, 1), (1, 1), (2, 0)]
        self.check([(1, 0), (0, 1)], met, [[2, 3], [4, 5], [0, 3], [3, 5], [1, 5], [5, 3]])

    def test_repeated_beginnings(self):
        met = [(2, 0), (1, 1), (2, 1), (0, 1)]
        self.check([(2, 0), (1, 1), (2, 0), (1, 1), (1, 1)], met, [[0, 2], [3, 0], [2, 0], [1, 0]])
        self.check([(2, 1), (2, 1)], [(2, 1), (2, 0)], [[0, 1], [1, 0]])

    def test_beginnings_that_others_lead_to(self):
        met = [(2, 0), (0, 0), (2, 1), (1, 0)]
        self.check([(2, 0), (0, 0)], met, [[0, 2], [3, 2], [2, 0], [1, 2]])

    def test_no_beginning(self):
        self.check([], [], [])

    def test_the_order_of_the_facts(self):
        machine = machine_of(["b", "a"], [([1, 2], [0, 0], 0), ([1, 1], [0, 0], 0), ([2, 2], [0, 0], 0)])
        pairs = Pairs(machine, machine, [(0, 0)])
        self.assertEqual(pairs.pairs, [(0, 0), (1, 1), (2, 2)])
        self.assertEqual(pairs.facts, ["b", "a"])

    def test_fields_are_there_when_it_is_created(self):
        pairs = Pairs(first_machine(), other_machine(), [(0, 0)])
        for name in ("facts", "pairs", "places", "step", "gain", "end"):
            self.assertIn(name, vars(pairs))
        kinds = [type(one) for one in told(pairs)]
        self.assertEqual(kinds, [list, list, dict, list, list, list])

    def test_random_pairs(self):
        rng = random.Random(3)
        for _ in range(60):
            machine, other = random_machine(rng, "abc", 4, 9), random_machine(rng, "abc", 3, 9)
            begins = [(rng.randrange(4), rng.randrange(3)) for _ in range(rng.randint(1, 4))]
            met = []
            for pair in begins:
                if pair not in met:
                    met.append(pair)
            for first, second in met:
                for fact in "abc":
                    pair = (machine.step[first][fact], other.step[second][fact])
                    if pair not in met:
                        met.append(pair)
            pairs = Pairs(machine, other, begins)
            self.assertEqual(pairs.pairs, met)
            for place, (first, second) in enumerate(met):
                for fact in "abc":
                    pair = (machine.step[first][fact], other.step[second][fact])
                    self.assertEqual(met[pairs.step[place][fact]], pair)

    def test_what_is_passed_in_is_neither_changed_nor_kept(self):
        machine, other, begins = first_machine(), other_machine(), [(2, 0), (2, 0), (1, 1)]
        pairs = Pairs(machine, other, begins)
        self.assertEqual(begins, [(2, 0), (2, 0), (1, 1)])
        before = copy.deepcopy(told(pairs))
        machine.facts.append("c")
        machine.step[0]["a"] = 2
        other.gain.clear()
        begins.clear()
        self.assertEqual(told(pairs), before)
        machine, other = first_machine(), other_machine()
        pairs = Pairs(machine, other, [(0, 0)])
        pairs.facts.clear()
        pairs.step[0]["a"] = 9
        pairs.gain[0].clear()
        pairs.end.clear()
        self.assertEqual(shown(machine), shown(first_machine()))
        self.assertEqual(shown(other), shown(other_machine()))

    def test_a_great_many(self):
        ring = machine_of(["a"], [([(state + 1) % 101], [0], 0) for state in range(101)])
        other = machine_of(["a"], [([(state + 1) % 103], [0], 0) for state in range(103)])
        pairs = Pairs(ring, other, [(0, 0)])
        self.assertEqual(pairs.many(), 101 * 103)
        self.assertEqual(pairs.pairs[-1], (100, 102))


class Unlike(unittest.TestCase):
    def test_unlike_facts(self):
        machine = machine_of(["a", "b"], [([0, 0], [0, 0], 0)])
        for facts in (["b", "a"], ["a"], ["b"], [], ["a", "c"], ["a", "b", "c"], ["c", "a", "b"]):
            other = machine_of(facts, [([0] * len(facts), [0] * len(facts), 0)])
            for begins in ([(0, 0)], []):
                with self.assertRaises(UnlikeFacts):
                    Pairs(machine, other, begins)
                with self.assertRaises(UnlikeFacts):
                    Pairs(other, machine, begins)


class FirstCareers(unittest.TestCase):
    def test_each_state(self):
        self.assertEqual(first_careers(first_machine()), [[], ["a"], ["b"]])
        self.assertEqual(left_from(first_machine()), [0, 1, 2])

    def test_states_that_no_career_leads_to(self):
        machine = machine_of(["a"], [([2], [0], 0), ([0], [0], 0), ([4], [0], 0), ([3], [0], 0), ([2], [0], 0)])
        self.assertEqual(first_careers(machine), [[], None, ["a"], None, ["a", "a"]])
        self.assertEqual(left_from(machine), [0, 2, 4])

    def test_states_that_are_come_to_are_ascending(self):
        rows = [([3, 1], [0, 0], 0), ([1, 1], [0, 0], 0), ([0, 0], [0, 0], 0), ([3, 0], [0, 0], 0)]
        machine = machine_of(["a", "b"], rows)
        self.assertEqual(left_from(machine), [0, 1, 3])
        self.assertEqual(first_careers(machine), [[], ["b"], None, ["a"]])

    def test_of_several_the_first_one_in_the_order_of_the_facts(self):
        rows = [([1, 2], [0, 0], 0), ([0, 3], [0, 0], 0), ([3, 0], [0, 0], 0), ([3, 3], [0, 0], 0)]
        self.assertEqual(first_careers(machine_of(["a", "b"], rows))[3], ["a", "b"])
        self.assertEqual(first_careers(machine_of(["b", "a"], rows))[3], ["b", "a"])
        rows = [([1, 1], [0, 0], 0), ([1, 1], [0, 0], 0)]
        self.assertEqual(first_careers(machine_of(["z", "a"], rows)), [[], ["z"]])

    def test_the_shortest_one_ahead_of_the_first_one(self):
        rows = [([1, 2], [0, 0], 0), ([2, 0], [0, 0], 0), ([2, 2], [0, 0], 0)]
        self.assertEqual(first_careers(machine_of(["a", "b"], rows)), [[], ["a"], ["b"]])

    def test_one_state_without_facts(self):
        machine = Machine([], [{}, {}], [{}, {}], [0, 0])
        self.assertEqual(first_careers(machine), [[], None])
        self.assertEqual(left_from(machine), [0])

    def test_against_all_careers(self):
        rng = random.Random(4)
        for _ in range(80):
            facts = rng.choice([["a", "b"], ["b", "a"], ["c", "a", "b"], ["a"]])
            machine = random_machine(rng, facts, rng.randint(1, 5), 0)
            first = [None] * machine.many()
            for career in careers(facts, 4):
                state = state_after(machine, 0, career)
                if first[state] is None:
                    first[state] = career
            self.assertEqual(first_careers(machine), first)
            self.assertEqual(left_from(machine), [state for state, career in enumerate(first) if career is not None])

    def test_a_long_way(self):
        machine = machine_of(["a"], [([min(state + 1, 2999)], [0], 0) for state in range(3000)])
        self.assertEqual(len(first_careers(machine)[2999]), 2999)
        self.assertEqual(left_from(machine), list(range(3000)))

    def test_what_is_returned_is_new(self):
        machine = machine_of(["a"], [([1], [0], 0), ([2], [0], 0), ([2], [0], 0)])
        found = first_careers(machine)
        found[1].append("x")
        found[0].append("y")
        left_from(machine).clear()
        self.assertEqual(first_careers(machine), [[], ["a"], ["a", "a"]])
        self.assertEqual(found[2], ["a", "a"])
        self.assertEqual(left_from(machine), [0, 1, 2])
        self.assertEqual(shown(machine), (["a"], [{"a": 1}, {"a": 2}, {"a": 2}], [{"a": 0}] * 3, [0] * 3))


class MovedPairs(unittest.TestCase):
    def test_the_pairs_behind_moves(self):
        machine, other = first_machine(), other_machine()
        pairs = moved_pairs(machine, other, Carry([1, 0, 0], [5, 6, 7]))
        self.assertIsInstance(pairs, Pairs)
        self.assertEqual(told(pairs), told(Pairs(machine, other, [(0, 1), (1, 0), (2, 0)])))
        self.assertEqual(pairs.pairs, [(0, 1), (1, 0), (2, 0), (1, 1), (0, 0), (2, 1)])

    def test_only_from_states_that_are_come_to_ascending(self):
        rows = [([3, 0], [0, 0], 0), ([1, 1], [0, 0], 0), ([3, 2], [0, 0], 0), ([2, 0], [0, 0], 0)]
        machine = machine_of(["a", "b"], rows)
        pairs = moved_pairs(machine, other_machine(), Carry([0, 1, 1, 0], [0] * 4))
        self.assertEqual(pairs.pairs[:3], [(0, 0), (2, 1), (3, 0)])
        self.assertNotIn(1, [pair[0] for pair in pairs.pairs])

    def test_random_ones(self):
        rng = random.Random(5)
        for _ in range(30):
            machine, other = random_machine(rng, "ab", 5, 3), random_machine(rng, "ab", 4, 3)
            carry = random_carry(rng, machine, other, 3)
            begins = [(state, carry.to[state]) for state in left_from(machine)]
            self.assertEqual(told(moved_pairs(machine, other, carry)), told(Pairs(machine, other, begins)))

    def test_what_is_passed_in_is_not_changed(self):
        machine, other, carry = first_machine(), other_machine(), Carry([1, 0, 0], [5, 6, 7])
        moved_pairs(machine, other, carry)
        self.assertEqual((carry.to, carry.cost), ([1, 0, 0], [5, 6, 7]))
        self.assertEqual(shown(machine), shown(first_machine()))
        self.assertEqual(shown(other), shown(other_machine()))


if __name__ == "__main__":
    unittest.main()
