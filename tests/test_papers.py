"""Papers of a bound and papers without end, points [20] and [21]."""

import copy
import random
import unittest

from movedyears.carrying import Carry, loss
from movedyears.errors import UnlikeFacts
from movedyears.longest import greatest_sums
from movedyears.losses import bound_paper, endless_paper, greatest_loss, verify_bound, verify_endless
from movedyears.machines import Machine
from movedyears.pairs import moved_pairs
from samples import machine_of, random_case, shown, still


def sample():
    """Return two machines and a carry with the greatest loss 11; state 2 is not come to."""
    rows = [([1, 0], [2, -1], 3), ([1, 0], [-1, -4], 6), ([0, 1], [0, 0], 9)]
    other = machine_of(["a", "b"], [([1, 0], [1, 0], -1), ([1, 0], [0, 0], 2)])
    return machine_of(["a", "b"], rows), other, Carry([1, 0, 0], [5, 2, 1])


SAMPLE_PAPER = [((0, 0), 5), ((0, 1), 6), ((1, 0), 7), ((1, 1), 4)]


class BoundPaper(unittest.TestCase):
    def test_the_paper_of_a_carry(self):
        machine, other, carry = sample()
        self.assertEqual(greatest_loss(machine, other, carry), 11)
        self.assertEqual(bound_paper(machine, other, carry), SAMPLE_PAPER)

    def test_it_is_ascending_and_has_all_pairs_with_their_greatest_sums(self):
        rng = random.Random(21)
        kinds = [0, 0]
        for turn in range(150):
            machine, other, carry = random_case(rng, ["a", "b"], turn)
            pairs = moved_pairs(machine, other, carry)
            paper = bound_paper(machine, other, carry)
            kinds[paper is None] += 1
            if greatest_loss(machine, other, carry) is None:
                self.assertIsNone(paper)
            else:
                self.assertIs(type(paper), list)
                self.assertEqual(paper, sorted(zip(pairs.pairs, greatest_sums(pairs))))
        self.assertGreater(min(kinds), 20)

    def test_it_is_none_if_the_loss_grows_without_end(self):
        machine = machine_of(["a"], [([0], [1], 0)])
        self.assertIsNone(bound_paper(machine, still("a"), Carry([0], [0])))

    def test_unlike_facts(self):
        for function in (bound_paper, endless_paper):
            with self.assertRaises(UnlikeFacts):
                function(still("ab"), still("ba"), Carry([0], [0]))


class VerifyBound(unittest.TestCase):
    def check(self, right, paper, bound=11):
        machine, other, carry = sample()
        before = copy.deepcopy(paper)
        self.assertIs(verify_bound(machine, other, carry, bound, paper), right)
        self.assertEqual(paper, before)

    def test_the_told_one(self):
        self.check(True, SAMPLE_PAPER)

    def test_for_greater_and_lesser_bounds(self):
        for bound in (11, 12, 13, 100, 10 ** 20):
            self.check(True, SAMPLE_PAPER, bound)
        for bound in (10, 9, 0, -1, -(10 ** 20)):
            self.check(False, SAMPLE_PAPER, bound)

    def test_the_order_is_free(self):
        self.check(True, SAMPLE_PAPER[::-1])
        self.check(True, SAMPLE_PAPER[2:] + SAMPLE_PAPER[:2])

    def test_a_pair_is_lacking(self):
        for at in range(4):
            self.check(False, SAMPLE_PAPER[:at] + SAMPLE_PAPER[at + 1:], 1000)
        self.check(False, [], 1000)

    def test_a_number_too_small(self):
        for at, (pair, number) in enumerate(SAMPLE_PAPER):
            for less in (1, 2, 1000):
                self.check(False, SAMPLE_PAPER[:at] + [(pair, number - less)] + SAMPLE_PAPER[at + 1:], 1000)

    def test_a_number_greater_than_needed(self):
        more = [(pair, number + 3) for pair, number in SAMPLE_PAPER]
        self.check(True, more, 14)
        self.check(False, more, 13)

    def test_one_number_greater_than_needed(self):
        # (0, 1) is behind a move, and would need a greater bound; (1, 1) would need other numbers greater, too.
        for at, right in enumerate((True, False, True, False)):
            pair, number = SAMPLE_PAPER[at]
            self.check(right, SAMPLE_PAPER[:at] + [(pair, number + 1)] + SAMPLE_PAPER[at + 1:])

    def test_papers_with_other_numbers(self):
        machine, other, carry = sample()
        rng = random.Random(20)
        rights = 0
        for _ in range(2000):
            paper = [(pair, number + rng.randint(-1, 3)) for pair, number in SAMPLE_PAPER]
            bound = rng.randint(10, 15)
            right = self.stands(machine, other, carry, bound, paper)
            self.check(right, paper, bound)
            rights += right
        self.assertGreater(rights, 30)

    def stands(self, machine, other, carry, bound, paper):
        """Return whether a paper with existing pairs is right, by the words of the document."""
        numbers = dict(paper)
        for state, career in ((0, []), (1, ["a"])):
            if (state, carry.to[state]) not in numbers:
                return False
            if carry.cost[state] + numbers[(state, carry.to[state])] > bound:
                return False
        for (first, second), number in paper:
            if number < machine.leave[first] - other.leave[second]:
                return False
            for fact in machine.facts:
                behind = (machine.step[first][fact], other.step[second][fact])
                if behind not in numbers:
                    return False
                if number < machine.gain[first][fact] - other.gain[second][fact] + numbers[behind]:
                    return False
        return True

    def test_a_pair_that_is_not_met(self):
        # State 2 is not come to. What leads on from (2, 0) is there; the number is right from 10 on.
        for number in (10, 11, 500):
            self.check(True, SAMPLE_PAPER + [((2, 0), number)])
        for number in (9, 0, -5):
            self.check(False, SAMPLE_PAPER + [((2, 0), number)])
        self.check(True, [((2, 1), 7)] + SAMPLE_PAPER)
        self.check(False, [((2, 1), 6)] + SAMPLE_PAPER)

    def test_a_pair_that_is_none(self):
        for pair in ((3, 0), (0, 2), (-1, 0), (0, -1), (-2, -1), (99, 99)):
            self.check(False, SAMPLE_PAPER + [(pair, 10 ** 9)])

    def test_a_pair_that_stands_twice(self):
        for at in range(4):
            self.check(False, SAMPLE_PAPER + [SAMPLE_PAPER[at]])
            pair, number = SAMPLE_PAPER[at]
            self.check(False, SAMPLE_PAPER + [(pair, number + 1)])
            self.check(False, [(pair, number - 1)] + SAMPLE_PAPER)

    def test_costs_count(self):
        machine, other, _ = sample()
        for cost, bound in (([5, 2, 1], 11), ([4, 3, 900], 10), ([-6, -7, 0], 0), ([0, 0, 0], 7)):
            carry = Carry([1, 0, 0], cost)
            self.assertIs(verify_bound(machine, other, carry, bound, SAMPLE_PAPER), True)
            self.assertIs(verify_bound(machine, other, carry, bound - 1, SAMPLE_PAPER), False)

    def test_no_paper_where_the_loss_grows_without_end(self):
        machine = machine_of(["a"], [([0], [1], 0)])
        for number in (0, 1, 5, 1000):
            self.assertIs(verify_bound(machine, still("a"), Carry([0], [0]), 10 ** 9, [((0, 0), number)]), False)

    def test_without_facts(self):
        machine = Machine([], [{}], [{}], [4])
        carry = Carry([0], [3])
        self.assertEqual(bound_paper(machine, still(""), carry), [((0, 0), 4)])
        self.assertIs(verify_bound(machine, still(""), carry, 7, [((0, 0), 4)]), True)
        self.assertIs(verify_bound(machine, still(""), carry, 6, [((0, 0), 4)]), False)
        self.assertIs(verify_bound(machine, still(""), carry, 7, [((0, 0), 3)]), False)

    def test_random_papers(self):
        rng = random.Random(22)
        for turn in range(120):
            machine, other, carry = random_case(rng, ["a", "b"], turn)
            paper = bound_paper(machine, other, carry)
            if paper is None:
                continue
            greatest = greatest_loss(machine, other, carry)
            for more in (0, 1, 50):
                self.assertIs(verify_bound(machine, other, carry, greatest + more, paper), True)
                self.assertIs(verify_bound(machine, other, carry, greatest - 1 - more, paper), False)
            for at, (pair, number) in enumerate(paper):
                spoilt = paper[:at] + [(pair, number - 1)] + paper[at + 1:]
                self.assertIs(verify_bound(machine, other, carry, greatest, spoilt), False)
                self.assertIs(verify_bound(machine, other, carry, greatest, paper[:at] + paper[at + 1:]), False)

    def test_no_paper_is_right_for_a_lesser_bound(self):
        machine, other, carry = sample()
        rng = random.Random(23)
        for _ in range(3000):
            paper = [(pair, number + rng.randint(-3, 4)) for pair, number in SAMPLE_PAPER]
            self.check(False, paper, 10)


def ringing():
    """Return two machines and a carry whose loss grows without end by the ring "b", "b" of the pair (2, 1)."""
    rows = [([1, 0], [0, -1], 0), ([2, 0], [-5, 0], 0), ([1, 3], [0, 2], -100), ([0, 2], [0, 1], 0)]
    other = machine_of(["a", "b"], [([1, 0], [9, 0], 0), ([0, 1], [9, 1], 0)])
    return machine_of(["a", "b"], rows), other, Carry([0, 1, 0, 1], [3, 0, 0, 0])


class EndlessPaper(unittest.TestCase):
    def test_a_ring(self):
        machine = machine_of(["a", "b"], [([0, 0], [0, 2], -50)])
        paper = endless_paper(machine, still("ab"), Carry([0], [0]))
        self.assertEqual(paper, ([], [], ["b"]))

    def test_there_is_one_exactly_if_the_loss_grows_without_end(self):
        rng = random.Random(24)
        kinds, ways = [0, 0], [0, 0, 0]
        for turn in range(300):
            machine, other, carry = random_case(rng, ["a", "b"], turn)
            paper = endless_paper(machine, other, carry)
            self.assertEqual(paper is None, greatest_loss(machine, other, carry) is not None)
            kinds[paper is None] += 1
            if paper is not None:
                self.assertIs(type(paper), tuple)
                self.assertEqual([type(career) for career in paper], [list, list, list])
                self.assertIs(verify_endless(machine, other, carry, paper), True)
                before, way, ring = paper
                lost = [loss(machine, other, carry, before + way + ring * many, len(before)) for many in range(4)]
                self.assertEqual(lost, sorted(set(lost)))
                for at, career in enumerate(paper):
                    ways[at] += len(career) > 1
        self.assertGreater(min(kinds), 50)
        self.assertGreater(min(ways), 0)

    def test_rings_of_nought_are_none(self):
        machine = machine_of(["a", "b"], [([1, 0], [7, 0], 50), ([0, 1], [-7, 0], 0)])
        self.assertIsNone(endless_paper(machine, still("ab"), Carry([0, 0], [0, 900])))

    def test_a_ring_that_is_not_behind_a_move(self):
        rows = [([0, 0], [0, -1], 0), ([1, 1], [5, 5], 0)]
        self.assertIsNone(endless_paper(machine_of(["a", "b"], rows), still("ab"), Carry([0, 0], [0, 0])))

    def test_behind_a_move_far_away(self):
        machine, other, carry = ringing()
        paper = endless_paper(machine, other, carry)
        self.assertIs(verify_endless(machine, other, carry, paper), True)

    def test_a_long_ring(self):
        many = 1000
        rows = [([min(state + 1, many), 0], [-1, -1], 0) for state in range(many)]
        rows.append(([many, 0], [-1, many + 2], 0))
        machine = machine_of(["a", "b"], rows)
        paper = endless_paper(machine, still("ab"), Carry([0] * (many + 1), [0] * (many + 1)))
        self.assertEqual(sorted(paper[2]), ["a"] * many + ["b"])
        self.assertIs(verify_endless(machine, still("ab"), Carry([0] * (many + 1), [0] * (many + 1)), paper), True)

    def test_what_is_passed_in_is_not_changed(self):
        machine, other, carry = ringing()
        before = copy.deepcopy((shown(machine), shown(other), carry.to, carry.cost))
        for career in endless_paper(machine, other, carry):
            career.append("x")
        self.assertEqual((shown(machine), shown(other), carry.to, carry.cost), before)
        self.assertIs(verify_endless(machine, other, carry, endless_paper(machine, other, carry)), True)
        machine, other, carry = sample()
        before = copy.deepcopy((shown(machine), shown(other), carry.to, carry.cost))
        bound_paper(machine, other, carry).clear()
        verify_bound(machine, other, carry, 11, list(SAMPLE_PAPER))
        self.assertEqual((shown(machine), shown(other), carry.to, carry.cost), before)


class VerifyEndless(unittest.TestCase):
    def check(self, right, before, way, ring):
        machine, other, carry = ringing()
        paper = (before, way, ring)
        held = copy.deepcopy(paper)
        self.assertIs(verify_endless(machine, other, carry, paper), right)
        self.assertEqual(paper, held)

    def test_right_ones(self):
        # Behind "a" the move leads to (1, 1), behind "a", "a" to (2, 0).
        self.check(True, ["a", "a"], [], ["b", "b"])
        self.check(True, ["a", "a"], ["b"], ["b", "b"])
        self.check(True, ["a", "a"], ["b", "b"], ["b", "b"])
        self.check(True, ["a", "a"], [], ["b", "b", "b", "b"])
        self.check(True, ["b", "a", "a"], [], ["b", "b"])
        self.check(True, ["a", "a", "b", "b"], [], ["b", "b"])
        self.check(True, ["a", "a", "b"], [], ["b", "b"])
        self.check(True, ["a"], ["a"], ["b", "b"])

    def test_a_fact_that_the_machines_do_not_have(self):
        self.check(False, ["c"], [], ["b", "b"])
        self.check(False, ["a", "a", "c"], [], ["b", "b"])
        self.check(False, ["a", "a"], ["c"], ["b", "b"])
        self.check(False, ["a", "a"], [], ["b", "c"])
        self.check(False, ["a", "a"], [], ["b", "b", "c"])
        self.check(False, ["a", "a"], [], ["c", "b", "b"])
        self.check(False, ["A", "a"], [], ["b", "b"])

    def test_a_ring_that_does_not_come_back(self):
        self.check(False, ["a", "a"], [], ["b"])
        self.check(False, ["a", "a"], [], ["b", "b", "b"])
        self.check(False, ["a", "a"], [], ["b", "b", "a"])
        self.check(False, ["a", "a"], ["a"], ["b", "b"])
        self.check(False, [], [], ["a"])

    def test_a_ring_that_comes_back_in_one_machine_only(self):
        # From (2, 0) the second machine is back at once by "b", the first one is not.
        machine, other, carry = ringing()
        machine.gain[2]["b"] = 500
        self.assertIs(verify_endless(machine, other, carry, (["a", "a"], [], ["b"])), False)
        other = machine_of(["a", "b"], [([1, 1], [9, 0], 0), ([0, 2], [9, 0], 0), ([2, 2], [0, 0], 0)])
        self.assertIs(verify_endless(machine, other, carry, (["a", "a"], [], ["b", "b"])), False)
        self.assertIs(verify_endless(machine, other, carry, (["a", "a"], ["b", "b"], ["b", "b"])), True)

    def test_a_ring_of_nought_or_below(self):
        self.check(False, ["a", "a"], [], [])
        self.check(False, [], [], [])
        self.check(False, [], [], ["b"])
        machine = machine_of(["a", "b"], [([0, 0], [0, 2], -50)])
        for ring, right in ((["a"], False), (["a", "a"], False), (["b"], True), (["a", "b"], True)):
            self.assertIs(verify_endless(machine, still("ab"), Carry([0], [0]), ([], [], ring)), right)
        for most in (-2, -1, 0, 1):
            machine = machine_of(["a"], [([1], [most - 7], 0), ([0], [7], 0)])
            self.assertIs(verify_endless(machine, still("a"), Carry([0, 0], [0, 0]), ([], [], ["a", "a"])), most > 0)

    def test_what_the_second_machine_brings_is_taken_off(self):
        for most in (0, 1, 2, 3):
            machine = machine_of(["a"], [([0], [2], 0)])
            other = machine_of(["a"], [([0], [most], 0)])
            self.assertIs(verify_endless(machine, other, Carry([0], [0]), ([], [], ["a"])), most < 2)

    def test_what_is_paid_ahead_of_the_ring_does_not_count(self):
        machine = machine_of(["a"], [([1], [1000], 0), ([1], [0], 5000)])
        carry = Carry([0, 0], [900, 900])
        self.assertIs(verify_endless(machine, still("a"), carry, (["a"], ["a"], ["a"])), False)

    def test_random_ones(self):
        rng = random.Random(25)
        rights = 0
        for turn in range(400):
            machine, other, carry = random_case(rng, ["a", "b"], turn)
            paper = tuple([rng.choice("ab") for _ in range(rng.randint(0, most))] for most in (2, 2, 3))
            right = self.stands(machine, other, carry, paper)
            self.assertIs(verify_endless(machine, other, carry, paper), right)
            rights += right
        self.assertGreater(rights, 30)

    def stands(self, machine, other, carry, paper):
        """Return whether a paper of known facts is one without end, by the words of the document."""
        first, ahead = 0, 0
        for fact in paper[0]:
            first = machine.step[first][fact]
        second = carry.to[first]
        for fact in paper[1]:
            first, second = machine.step[first][fact], other.step[second][fact]
        pair = (first, second)
        for fact in paper[2]:
            ahead += machine.gain[first][fact] - other.gain[second][fact]
            first, second = machine.step[first][fact], other.step[second][fact]
        return (first, second) == pair and ahead > 0


if __name__ == "__main__":
    unittest.main()
