"""The greatest sums over all careers from pairs on, point [18], and the shortest careers that have them."""

import copy
import random
import unittest

from movedyears.longest import greatest_sums, lengths
from movedyears.machines import Machine
from movedyears.pairs import Pairs
from samples import machine_of, random_machine, still


def pairs_of(machine):
    """Return the pairs of a machine and one that pays nothing, in the order of the machine's states."""
    return Pairs(machine, still(machine.facts), [(state, 0) for state in range(machine.many())])


class Case(unittest.TestCase):
    def check(self, rows, sums, shortest, facts="ab"):
        pairs = pairs_of(machine_of(list(facts), rows))
        found = greatest_sums(pairs)
        self.assertEqual(found, sums)
        self.assertEqual(lengths(pairs, found), shortest)


class Finite(Case):
    def test_leaving_at_once_is_best(self):
        self.check([([0, 0], [-1, -2], 5)], [5], [0])
        self.check([([0, 0], [0, 0], 0)], [0], [0])
        self.check([([1, 1], [-1, -1], 3), ([0, 1], [-9, -9], 1)], [3, 1], [0, 0])

    def test_sums_below_0(self):
        self.check([([0, 0], [-1, -2], -5)], [-5], [0])
        self.check([([1, 0], [3, -1], -50), ([1, 1], [-1, -1], -20)], [-17, -20], [1, 0])

    def test_a_way_to_a_better_end(self):
        rows = [([1, 0], [-3, -1], 0), ([2, 1], [-4, -1], 5), ([2, 2], [-1, -1], 100)]
        self.check(rows, [93, 96, 100], [2, 1, 0])

    def test_the_best_fact_is_taken(self):
        rows = [([1, 1], [2, 7], 0), ([1, 1], [-1, -1], 1)]
        self.check(rows, [8, 1], [1, 0])
        rows = [([1, 1], [7, 2], 0), ([1, 1], [-1, -1], 1)]
        self.check(rows, [8, 1], [1, 0])

    def test_the_shortest_career_that_has_the_sum(self):
        # Both ways to the end bring 10: by one year, and by two.
        rows = [([1, 2], [5, 10], 0), ([2, 1], [5, -1], 0), ([2, 2], [-1, -1], 0)]
        self.check(rows, [10, 5, 0], [1, 1, 0])
        rows = [([1, 2], [5, 9], 0), ([2, 1], [5, -1], 0), ([2, 2], [-1, -1], 0)]
        self.check(rows, [10, 5, 0], [2, 1, 0])

    def test_leaving_at_once_is_the_shortest_of_those_with_the_same_sum(self):
        rows = [([1, 0], [3, 0], 8), ([1, 1], [0, 0], 5)]
        self.check(rows, [8, 5], [0, 0])

    def test_one_pair_without_facts(self):
        machine = Machine([], [{}], [{}], [-7])
        pairs = Pairs(machine, machine, [(0, 0)])
        self.assertEqual(greatest_sums(pairs), [0])
        self.assertEqual(lengths(pairs, [0]), [0])

    def test_no_pairs(self):
        pairs = Pairs(still("ab"), still("ab"), [])
        self.assertEqual(greatest_sums(pairs), [])
        self.assertEqual(lengths(pairs, []), [])


class Nought(Case):
    def test_rings_of_exactly_nought(self):
        self.check([([0, 0], [0, 0], 4)], [4], [0])
        rows = [([1, 0], [7, 0], 0), ([0, 1], [-7, 0], 0)]
        self.check(rows, [7, 0], [1, 0])
        rows = [([1, 2], [1000, -1], 0), ([0, 1], [-1000, 0], 0), ([2, 2], [0, 0], 3)]
        self.check(rows, [1000, 0, 3], [1, 0, 0])

    def test_a_ring_of_nought_that_leads_to_the_best_end(self):
        # From 0 the ring has to be left at 2.
        rows = [([1, 1], [2, 2], 0), ([2, 2], [3, 3], 0), ([0, 3], [-5, 1], 0), ([3, 3], [-1, -1], 50)]
        self.check(rows, [56, 54, 51, 50], [3, 2, 1, 0])

    def test_a_ring_just_below_nought(self):
        rows = [([1, 1], [1000, 1000], 0), ([0, 0], [-1001, -1001], 0)]
        self.check(rows, [1000, 0], [1, 0])


class Endless(Case):
    def test_a_ring_above_nought(self):
        self.check([([0, 0], [1, -5], -100)], [None], [None])
        self.check([([0, 0], [-5, 1], -100)], [None], [None])
        rows = [([1, 1], [1000, -2000], 0), ([0, 0], [-999, -999], -1000)]
        self.check(rows, [None, None], [None, None])

    def test_rings_that_only_some_pairs_come_to(self):
        rows = [
            ([1, 2], [-900, 3], 0), ([1, 1], [1, 0], -1000), ([2, 3], [0, -4], 9), ([3, 2], [-1, -1], 40),
            ([0, 4], [0, 0], 0), ([3, 5], [-1, 0], 0),
        ]
        self.check(rows, [None, None, 36, 40, None, 39], [None, None, 1, 0, None, 1])

    def test_several_rings(self):
        rows = [([0, 1], [1, 0], 0), ([2, 1], [0, 1], 0), ([2, 3], [-1, 0], 0), ([2, 3], [0, -1], 5)]
        self.check(rows, [None, None, 5, 5], [None, None, 1, 0])
        rows = [([0, 1], [1, 0], 0), ([2, 1], [0, 1], 0), ([2, 3], [-1, 0], 0), ([2, 3], [1, -1], 5)]
        self.check(rows, [None] * 4, [None] * 4)

    def test_a_long_ring(self):
        many = 400
        rows = [([(state + 1) % many], [1 if state else 2 - many], 0) for state in range(many)]
        self.check(rows, [None] * many, [None] * many, "a")
        rows = [([(state + 1) % many], [1 if state else 1 - many], 0) for state in range(many)]
        sums = [0] + [many - state for state in range(1, many)]
        self.check(rows, sums, [0] + [many - state for state in range(1, many)], "a")

    def test_a_ring_that_brings_little_behind_great_costs(self):
        rows = [([1, 0], [-1000, 0], 1000), ([2, 2], [-1000, -999], 0), ([1, 1], [1000, 999], 0)]
        self.check(rows, [None, None, None], [None, None, None])


class Tell(unittest.TestCase):
    """Against sums over all walks, in a way of its own."""

    def best_by_length(self, pairs, longest):
        """Return, by lengths, the greatest sums over careers of just this length."""
        rows = [list(pairs.end)]
        for _ in range(longest):
            rows.append([
                max(pairs.gain[place][fact] + rows[-1][pairs.step[place][fact]] for fact in pairs.facts)
                for place in range(pairs.many())
            ])
        return rows

    def on_rings(self, pairs):
        """Return the places from which some career leads back with a gain above 0."""
        found = []
        for begin in range(pairs.many()):
            best = {begin: 0}
            for _ in range(pairs.many()):
                further = {}
                for place, value in best.items():
                    for fact in pairs.facts:
                        behind = pairs.step[place][fact]
                        further[behind] = max(further.get(behind, -10 ** 9), value + pairs.gain[place][fact])
                best = further
                if best.get(begin, 0) > 0:
                    found.append(begin)
                    break
        return found

    def leading_to(self, pairs, found):
        """Return all places that lead to one of those found."""
        found = set(found)
        for _ in range(pairs.many()):
            found |= {place for place in range(pairs.many()) if found & set(pairs.step[place].values())}
        return found

    def check(self, pairs):
        many = pairs.many()
        rows = self.best_by_length(pairs, many)
        endless = self.leading_to(pairs, self.on_rings(pairs))
        sums = [None if place in endless else max(row[place] for row in rows) for place in range(many)]
        found = greatest_sums(pairs)
        self.assertEqual(found, sums)
        shortest = [
            None if place in endless else [row[place] for row in rows].index(sums[place]) for place in range(many)
        ]
        self.assertEqual(lengths(pairs, found), shortest)
        return sums

    def test_random_pairs(self):
        rng = random.Random(7)
        kinds = [0, 0]
        for turn in range(300):
            facts = "abc"[:rng.randint(1, 3)]
            machine, other = random_machine(rng, facts, rng.randint(1, 4), 4), random_machine(rng, facts, 2, 1)
            for row in machine.gain:
                for fact in facts:
                    row[fact] -= turn % 6
            begins = [(rng.randrange(machine.many()), rng.randrange(2)) for _ in range(2)]
            sums = self.check(Pairs(machine, other, begins))
            kinds[None in sums] += 1
        # Both kinds have to be among them, else this tests little.
        self.assertGreater(min(kinds), 50)

    def test_random_pairs_with_rings_of_nought(self):
        rng = random.Random(11)
        for _ in range(200):
            # All rings of the first machine are nought or less, some with a single wrong amount.
            machine = random_machine(rng, "ab", rng.randint(2, 6), 6)
            heights = [rng.randint(-9, 9) for _ in range(machine.many())]
            for state in range(machine.many()):
                for fact in "ab":
                    fall = heights[state] - heights[machine.step[state][fact]]
                    machine.gain[state][fact] = fall - rng.choice([0, 0, 0, 1, 2])
            if rng.random() < 0.4:
                machine.gain[rng.randrange(machine.many())]["a"] += rng.randint(1, 2)
            self.check(pairs_of(machine))


class Unchanged(unittest.TestCase):
    def test_what_is_passed_in_is_not_changed(self):
        rows = [([1, 2], [-900, 3], 0), ([1, 1], [1, 0], -1000), ([2, 3], [0, -4], 9), ([3, 2], [-1, -1], 40)]
        pairs = pairs_of(machine_of(["a", "b"], rows))
        before = copy.deepcopy(vars(pairs))
        found = greatest_sums(pairs)
        values = list(found)
        lengths(pairs, values).clear()
        self.assertEqual(values, found)
        found.clear()
        self.assertEqual(vars(pairs), before)
        self.assertEqual(greatest_sums(pairs), values)

    def test_a_long_way_back_and_on(self):
        many = 10000
        rows = [([(state - 1) % many, 0], [1 if state != 1 else -many, -many], 0) for state in range(many)]
        pairs = pairs_of(machine_of(["a", "b"], rows))
        sums = greatest_sums(pairs)
        self.assertEqual(sums, [many - 1] + list(range(many - 1)))
        self.assertEqual(lengths(pairs, sums), sums)
        rows = [([(state + 1) % many, 0], [1 if state != many - 1 else -many, -many], 0) for state in range(many)]
        pairs = pairs_of(machine_of(["a", "b"], rows))
        sums = greatest_sums(pairs)
        self.assertEqual(sums, list(range(many - 1, -1, -1)))
        self.assertEqual(lengths(pairs, sums), sums)


if __name__ == "__main__":
    unittest.main()
