"""What a move can cost, points [18] and [19]."""

import copy
import random
import unittest

from movedyears.carrying import Carry, CarryRules, loss, made_carry, parse_carry
from movedyears.errors import UnlikeFacts
from movedyears.losses import greatest_loss, losing_career, losses_from
from movedyears.pairs import left_from
from movedyears.rules import parse_rules
from samples import careers, machine_of, random_case, shown, still


class Told(unittest.TestCase):
    def check(self, rows, carry, losses, greatest, losing, facts="ab", other=None):
        machine = machine_of(list(facts), rows)
        other = other or still(list(facts))
        self.assertEqual(losses_from(machine, other, carry), losses)
        self.assertEqual(greatest_loss(machine, other, carry), greatest)
        self.assertEqual(losing_career(machine, other, carry), losing)

    def test_one_state(self):
        self.check([([0, 0], [0, -1], 5)], Carry([0], [3]), [8], 8, ([], 0))
        self.check([([0, 0], [0, -1], -5)], Carry([0], [-3]), [-8], -8, ([], 0))
        self.check([([0, 0], [-1, 1], 5)], Carry([0], [3]), [None], None, None)

    def test_of_each_state(self):
        rows = [([1, 0], [-7, -1], 0), ([1, 2], [-2, -3], 20), ([2, 2], [-1, -1], 50)]
        self.check(rows, Carry([0, 0, 0], [1, 2, 3]), [41, 49, 53], 53, (["a", "b"], 2))

    def test_what_is_paid_ahead_of_the_move_is_no_loss(self):
        rows = [([1, 1], [1000, -1000], 0), ([1, 1], [-1, -2], 0)]
        self.check(rows, Carry([0, 0], [0, 5]), [1000, 5], 1000, (["a"], 0))
        self.check(rows, Carry([0, 0], [0, 2000]), [1000, 2000], 2000, (["a"], 1))

    def test_states_that_are_not_come_to(self):
        rows = [([0, 2], [-1, -1], 1), ([1, 1], [1, 1], 1), ([2, 0], [-1, -1], 4), ([0, 0], [-1, -1], 100)]
        self.check(rows, Carry([0] * 4, [0, 900, 0, 900]), [3, "never", 4, "never"], 4, (["b"], 1))
        # None of what it leads to is, either.
        rows = [([0, 0], [-1, -1], 1), ([1, 1], [1, 1], 1)]
        self.check(rows, Carry([0, 0], [0, 0]), [1, "never"], 1, ([], 0))

    def test_losses_that_grow_without_end(self):
        rows = [([1, 2], [-1, -1], 1), ([1, 1], [0, -1], 2), ([2, 2], [0, 1], 3), ([1, 1], [0, 0], 9)]
        self.check(rows, Carry([0] * 4, [0] * 4), [None, 2, None, "never"], None, None)

    def test_the_ring_may_be_in_the_other_machine(self):
        other = machine_of(["a", "b"], [([0, 1], [0, 0], 0), ([1, 1], [-1, 0], 0)])
        rows = [([0, 0], [0, 0], 0)]
        self.check(rows, Carry([0], [0]), [None], None, None, other=other)
        other = machine_of(["a", "b"], [([0, 0], [0, 0], 0), ([1, 1], [-1, 0], 0)])
        self.check(rows, Carry([0], [0]), [0], 0, ([], 0), other=other)
        self.check(rows, Carry([1], [0]), [None], None, None, other=other)

    def test_the_first_career_of_the_shortest_ones(self):
        rows = [([1, 2], [-1, -1], 0), ([3, 3], [-1, -1], 0), ([3, 3], [-1, -1], 0), ([3, 3], [-1, -1], 9)]
        carry = Carry([0] * 4, [0, 3, 3, 0])
        # Behind "a" and behind "b" the loss is the same; at the end of both it is, too.
        self.check(rows, carry, [7, 11, 11, 9], 11, (["a", "a"], 1))
        self.check(rows, carry, [7, 11, 11, 9], 11, (["b", "b"], 1), facts="ba")
        self.check(rows, Carry([0] * 4, [0, 3, 4, 0]), [7, 11, 12, 9], 12, (["b", "a"], 1))
        self.check(rows, Carry([0] * 4, [0, 3, 3, 2]), [7, 11, 11, 11], 11, (["a", "a"], 1))
        self.check(rows, Carry([0] * 4, [4, 3, 3, 2]), [11, 11, 11, 11], 11, (["a", "a"], 0))

    def test_the_order_of_the_facts_is_not_that_of_the_letters(self):
        rows = [([1, 2], [-1, -1], 0), ([1, 1], [-1, -1], 9), ([2, 2], [-1, -1], 9)]
        self.check(rows, Carry([0] * 3, [0, 0, 0]), [8, 9, 9], 9, (["z"], 1), facts="za")

    def test_moves_from_states_that_are_not_equally_far_away(self):
        ends = [([2, 2], [-1, -1], 0), ([2, 2], [-1, -1], 0), ([4, 2], [0, -1], 0), ([4, 4], [-1, -1], 2)]
        carry = Carry([0] * 5, [0, 0, 2, 0, 0])
        # State 2 is two years away, and costs 2 at once; state 3 one year, and costs 2 with a further one.
        self.check([([1, 3], [-1, -1], 0)] + ends, carry, [1, 0, 2, 2, 2], 2, (["a", "a"], 2))
        self.check([([3, 1], [-1, -1], 0)] + ends, carry, [1, 0, 2, 2, 2], 2, (["a", "a"], 1))

    def test_a_career_that_is_shorter_but_not_first(self):
        rows = [([1, 2], [-1, -1], 0), ([1, 2], [-1, -1], 0), ([2, 2], [-1, -1], 5)]
        self.check(rows, Carry([0] * 3, [0] * 3), [4, 4, 5], 5, (["b"], 1))

    def test_unlike_facts(self):
        for function in (losses_from, greatest_loss, losing_career):
            with self.assertRaises(UnlikeFacts):
                function(still("ab"), still("ba"), Carry([0], [0]))


class AgainstAllCareers(unittest.TestCase):
    LONGEST = 6

    def check(self, machine, other, carry):
        greatest = greatest_loss(machine, other, carry)
        losing = losing_career(machine, other, carry)
        first, most = None, None
        for career in careers(machine.facts, self.LONGEST):
            for year in range(len(career) + 1):
                lost = loss(machine, other, carry, career, year)
                most = lost if most is None else max(most, lost)
                if lost == greatest and first is None:
                    first = (career, year)
        if greatest is None:
            self.assertIsNone(losing)
            return None
        self.assertLessEqual(most, greatest)
        self.assertIs(type(losing), tuple)
        career, year = losing
        self.assertEqual(loss(machine, other, carry, career, year), greatest)
        if len(career) <= self.LONGEST:
            self.assertEqual(losing, first)
        else:
            self.assertIsNone(first)
        return len(career)

    def test_random_carries(self):
        rng = random.Random(12)
        found = [self.check(*random_case(rng, ["b", "a"], turn)) for turn in range(250)]
        self.assertGreater(len([one for one in found if one is None]), 30)
        for many in range(4):
            self.assertGreater(found.count(many), 3)

    def test_more_facts(self):
        rng = random.Random(13)
        self.LONGEST = 4
        for turn in range(60):
            self.check(*random_case(rng, ["c", "a", "b"], turn))

    def test_rules(self):
        text = "facts a b\ncount n 3 a 1 b reset\ngain 10 a if n >= 2\nleave 30 if n >= 3\nleave -5 if n < 1"
        rules = parse_rules(text)
        other = parse_rules("facts a b\ncount m 3 a 1\ngain 10 a if m >= 1\ngain 1 b\nleave 20 if m >= 3")
        for text in ("", "take m n", "take m n less 1\ncost 4 if n >= 2", "take m n less 3\ncost -3\ncost 9 if n < 1"):
            machine, second, carry = made_carry(rules, other, parse_carry(text, rules, other))
            self.assertIsNotNone(self.check(machine, second, carry))


def most_ahead(machine, other, pair, longest):
    """Return the most that the first machine is ahead from a pair on, over all careers up to a length."""
    firsts, seconds = range(machine.many()), range(other.many())
    best = {(first, second): machine.leave[first] - other.leave[second] for first in firsts for second in seconds}
    for _ in range(longest):
        further = {}
        for first, second in best:
            sums = [best[(first, second)]]
            for fact in machine.facts:
                gain = machine.gain[first][fact] - other.gain[second][fact]
                sums.append(gain + best[(machine.step[first][fact], other.step[second][fact])])
            further[(first, second)] = max(sums)
        best = further
    return best[pair]


class OfEachState(unittest.TestCase):
    def test_random_states(self):
        rng = random.Random(14)
        kinds = {"never": 0, "grows": 0, "is": 0}
        for turn in range(100):
            machine, other, carry = random_case(rng, ["a", "b"], turn)
            losses = losses_from(machine, other, carry)
            self.assertEqual(len(losses), machine.many())
            left = left_from(machine)
            self.assertEqual([state for state, one in enumerate(losses) if one != "never"], left)
            kinds["never"] += machine.many() - len(left)
            for state in left:
                pair = (state, carry.to[state])
                most = carry.cost[state] + most_ahead(machine, other, pair, 12)
                if losses[state] is None:
                    self.assertGreater(carry.cost[state] + most_ahead(machine, other, pair, 2000), most)
                    kinds["grows"] += 1
                else:
                    self.assertEqual(losses[state], most)
                    kinds["is"] += 1
            told = [losses[state] for state in left]
            self.assertEqual(greatest_loss(machine, other, carry), None if None in told else max(told))
        self.assertGreater(min(kinds.values()), 20)


class Unchanged(unittest.TestCase):
    def test_what_is_passed_in_is_not_changed(self):
        rng = random.Random(15)
        for turn in range(20):
            machine, other, carry = random_case(rng, ["a", "b"], turn)
            before = copy.deepcopy((shown(machine), shown(other), carry.to, carry.cost))
            losses = losses_from(machine, other, carry)
            losses.clear()
            greatest_loss(machine, other, carry)
            losing = losing_career(machine, other, carry)
            if losing is not None:
                losing[0].append("x")
            self.assertEqual((shown(machine), shown(other), carry.to, carry.cost), before)

    def test_a_great_scheme(self):
        text = "facts a b c\ncount x 20 a 1\ncount y 20 b 1 c reset\ngain 1 a if x < 20\nleave 5 if y >= 20"
        rules = parse_rules(text)
        machine, other, carry = made_carry(rules, rules, CarryRules([("x", "x", 2), ("y", "y", 0)], []))
        # Moving takes two years of x away: the gains of these are had once more in the other scheme.
        self.assertEqual(greatest_loss(machine, other, carry), 0)
        self.assertEqual(losing_career(machine, other, carry), ([], 0))
        machine, other, carry = made_carry(rules, rules, CarryRules([("x", "x", 0), ("y", "y", 7)], []))
        self.assertEqual(losing_career(machine, other, carry), (["b"] * 20, 1))


if __name__ == "__main__":
    unittest.main()
