"""Machines that are alike, the telling career and papers of likeness, point [22]."""

import copy
import random
import unittest

from movedyears.alike import alike_paper, are_alike, telling_career, verify_alike
from movedyears.errors import UnlikeFacts
from movedyears.machines import Machine, made
from movedyears.pairs import Pairs
from movedyears.rules import parse_rules
from movedyears.runs import total
from samples import careers, machine_of, random_machine, same_machine, shown, still


def sample():
    """Return two machines that are alike, with other states and with amounts moved ahead."""
    machine = machine_of(["a", "b"], [([1, 0], [5, 1], 0), ([1, 0], [2, 3], 7)])
    # Its state 2 is state 1 of the machine with 4 paid ahead; its state 1 is the same with 3 kept back.
    other = machine_of(["a", "b"], [([2, 0], [9, 1], 0), ([2, 0], [9, 6], 10), ([1, 0], [-5, -1], 3)])
    return machine, other


SAMPLE_PAPER = [((0, 0), 0), ((1, 1), 3), ((1, 2), -4)]


class Telling(unittest.TestCase):
    def check(self, career, machine, other):
        for first, second in ((machine, other), (other, machine)):
            self.assertEqual(telling_career(first, second), career)
            self.assertIs(are_alike(first, second), career is None)
            self.assertEqual(alike_paper(first, second) is None, career is not None)

    def test_alike_ones(self):
        self.check(None, *sample())
        machine, other = sample()
        self.check(None, machine, machine)
        self.check(None, other, other)

    def test_on_the_empty_career(self):
        machine, other = sample()
        other.leave[0] = 1
        self.check([], machine, other)
        self.check([], machine_of(["a"], [([0], [0], 1)]), still("a"))

    def test_on_one_year(self):
        machine, other = sample()
        other.gain[0]["a"] = 8
        self.check(["a"], machine, other)
        machine, other = sample()
        other.gain[0]["b"] = 2
        self.check(["b"], machine, other)

    def test_of_several_the_first_one(self):
        machine, other = sample()
        other.gain[0] = {"a": 8, "b": 2}
        self.check(["a"], machine, other)
        machine, other = sample()
        other.gain[2]["b"] = 0
        self.check(["a", "b"], machine, other)
        machine, other = sample()
        other.leave[1] = 0
        self.check(["a", "a"], machine, other)
        machine, other = sample()
        other.gain[1]["b"] = 0
        self.check(["a", "a", "b"], machine, other)

    def test_the_order_of_the_facts_is_not_that_of_the_letters(self):
        machine = machine_of(["z", "a"], [([0, 0], [1, 1], 0)])
        self.check(["z"], machine, still(["z", "a"]))
        machine = machine_of(["z", "a"], [([0, 1], [0, 0], 0), ([1, 1], [5, 5], 0)])
        self.check(["a", "z"], machine, still(["z", "a"]))

    def test_differences_that_make_up_for_each_other(self):
        # The gains differ in the first year, and what is paid on leaving makes up for it.
        machine = machine_of(["a"], [([1], [5], 0), ([1], [0], 0)])
        other = machine_of(["a"], [([1], [2], 0), ([1], [0], 3)])
        self.check(None, machine, other)
        other = machine_of(["a"], [([1], [2], 0), ([2], [3], 3), ([2], [0], 0)])
        self.check(None, machine, other)
        other = machine_of(["a"], [([1], [2], 0), ([2], [3], 3), ([2], [1], 0)])
        self.check(["a", "a", "a"], machine, other)

    def test_states_that_are_not_come_to(self):
        machine = machine_of(["a"], [([0], [1], 2), ([0], [9], 9)])
        self.check(None, machine, machine_of(["a"], [([0], [1], 2)]))

    def test_far_away(self):
        counting = "facts a b\ncount x 20 a 1\ncount y 20 b 1"
        machine = made(parse_rules(counting))[0]
        other = made(parse_rules(counting + "\nleave 1 if x >= 20 and y >= 20"))[0]
        self.check(["a"] * 20 + ["b"] * 20, machine, other)
        self.check(None, machine, still("ab"))

    def test_machines_of_rules(self):
        machine = made(parse_rules("facts a b\ncount n 5 a 1\ngain 3 a if n >= 2\nleave 4"))[0]
        text = "facts a b\ncount n 2 a 1\ncount m 3 b 1\ngain 1 a if n >= 2\ngain 2 a if n >= 2\nleave 4"
        other = made(parse_rules(text))[0]
        self.check(None, machine, other)
        other = made(parse_rules("facts a b\ncount n 3 a 1\ngain 3 a if n >= 3\nleave 4"))[0]
        self.check(["a", "a", "a"], machine, other)

    def test_without_facts(self):
        machine = Machine([], [{}], [{}], [4])
        self.check(None, machine, machine)
        self.check([], machine, still([]))
        self.assertEqual(alike_paper(machine, machine), [((0, 0), 0)])

    def test_unlike_facts(self):
        for function in (telling_career, are_alike, alike_paper):
            with self.assertRaises(UnlikeFacts):
                function(still("ab"), still("ba"))


class AgainstAllCareers(unittest.TestCase):
    def first_telling(self, machine, other, longest):
        for career in careers(machine.facts, longest):
            if total(machine, 0, career) != total(other, 0, career):
                return career
        return None

    def check(self, machine, other, longest):
        for first, second in ((machine, other), (other, machine)):
            told = telling_career(first, second)
            if told is None or len(told) > longest:
                self.assertIsNone(self.first_telling(first, second, longest))
            else:
                self.assertEqual(told, self.first_telling(first, second, longest))
            if told is not None:
                self.assertNotEqual(total(first, 0, told), total(second, 0, told))
            self.assertIs(are_alike(first, second), told is None)
            paper = alike_paper(first, second)
            self.assertEqual(paper is None, told is not None)
            if paper is not None:
                self.assertIs(verify_alike(first, second, paper), True)
                self.assertEqual([pair for pair, _ in paper], sorted(Pairs(first, second, [(0, 0)]).pairs))
        return told

    def test_machines_that_are_alike(self):
        rng = random.Random(31)
        for _ in range(80):
            machine = random_machine(rng, ["b", "a"], rng.randint(1, 5), 9)
            self.assertIsNone(self.check(machine, same_machine(rng, machine, 9), 6))

    def test_machines_that_are_nearly_alike(self):
        rng = random.Random(32)
        told = []
        for _ in range(200):
            machine = random_machine(rng, ["b", "a"], rng.randint(1, 5), 2)
            other = same_machine(rng, machine, 2)
            state = rng.randrange(other.many())
            kind = rng.randrange(3)
            if kind == 0:
                other.leave[state] += 1
            elif kind == 1:
                other.gain[state]["a"] -= 1
            else:
                other.step[state]["b"] = rng.randrange(other.many())
            told.append(self.check(machine, other, 6))
        self.assertGreater(len([one for one in told if one is None]), 10)
        for many in range(4):
            self.assertGreater(len([one for one in told if one is not None and len(one) == many]), 3)

    def test_any_machines(self):
        rng = random.Random(33)
        for _ in range(200):
            self.check(random_machine(rng, "ab", 3, 1), random_machine(rng, "ab", 2, 1), 5)
        for _ in range(60):
            self.check(random_machine(rng, "cab", 3, 0), random_machine(rng, "cab", 2, 0), 3)


class Papers(unittest.TestCase):
    def check(self, right, paper, machine=None, other=None):
        if machine is None:
            machine, other = sample()
        held = copy.deepcopy(paper)
        self.assertIs(verify_alike(machine, other, paper), right)
        self.assertEqual(paper, held)

    def test_the_paper_of_two_machines(self):
        self.assertEqual(alike_paper(*sample()), SAMPLE_PAPER)
        machine, other = sample()
        back = [((second, first), -number) for (first, second), number in SAMPLE_PAPER]
        self.assertEqual(alike_paper(other, machine), sorted(back))

    def test_the_told_one_is_right(self):
        self.check(True, SAMPLE_PAPER)
        self.check(True, SAMPLE_PAPER[::-1])

    def test_numbers_that_are_spoilt(self):
        for at, (pair, number) in enumerate(SAMPLE_PAPER):
            for wrong in (number - 1, number + 1, -number, number + 100, 0):
                if wrong != number:
                    self.check(False, SAMPLE_PAPER[:at] + [(pair, wrong)] + SAMPLE_PAPER[at + 1:])

    def test_all_numbers_moved(self):
        machine, other = sample()
        moved = [(pair, number + 1) for pair, number in SAMPLE_PAPER]
        self.check(False, moved)
        # With as much less paid on leaving everywhere only the number of (0, 0) is wrong.
        machine.leave = [one - 1 for one in machine.leave]
        self.check(False, moved, machine, other)
        self.check(False, SAMPLE_PAPER, machine, other)

    def test_pairs_left_out(self):
        for at in range(3):
            self.check(False, SAMPLE_PAPER[:at] + SAMPLE_PAPER[at + 1:])
        self.check(False, [])
        self.check(False, SAMPLE_PAPER[:1])

    def test_only_pairs_that_lead_to_each_other(self):
        # All that is asked of a pair holds for these, but (0, 0) is not there.
        machine = machine_of(["a"], [([0], [0], 0), ([1], [0], 0)])
        self.check(True, [((0, 0), 0)], machine, machine)
        self.check(False, [((1, 1), 0)], machine, machine)
        self.check(True, [((1, 1), 0), ((0, 0), 0), ((0, 1), 0)], machine, machine)

    def test_pairs_put_in(self):
        machine, other = sample()
        rows = [shown(machine), shown(other)]
        # A copy of state 0 that no career leads to is put in on both sides.
        machine = machine_of(["a", "b"], [([1, 0], [5, 1], 0), ([1, 0], [2, 3], 7), ([1, 0], [5, 1], 6)])
        self.check(True, SAMPLE_PAPER, machine, other)
        self.check(False, SAMPLE_PAPER + [((2, 0), -6)], machine, other)
        machine = machine_of(["a", "b"], [([1, 0], [5, 1], 0), ([1, 0], [2, 3], 7), ([1, 0], [11, 7], 6)])
        self.check(True, SAMPLE_PAPER + [((2, 0), -6)], machine, other)
        self.check(True, [((2, 0), -6)] + SAMPLE_PAPER, machine, other)
        for number in (-7, -5, 0, 6):
            self.check(False, SAMPLE_PAPER + [((2, 0), number)], machine, other)
        for pair in ((0, 1), (0, 2), (1, 0)):
            for number in range(-12, 13):
                self.check(False, SAMPLE_PAPER + [(pair, number)])
        self.assertEqual(rows, [shown(one) for one in sample()])

    def test_pairs_that_are_none(self):
        for pair in ((2, 0), (0, 3), (-1, -1), (-2, 0), (0, -3), (50, 50)):
            for number in (-4, 0, 3):
                self.check(False, SAMPLE_PAPER + [(pair, number)])

    def test_a_pair_that_stands_twice(self):
        for at in range(3):
            self.check(False, SAMPLE_PAPER + [SAMPLE_PAPER[at]])
            pair, number = SAMPLE_PAPER[at]
            self.check(False, [(pair, number + 1)] + SAMPLE_PAPER)

    def test_no_paper_for_machines_that_are_not_alike(self):
        machine, other = sample()
        for change in ("leave", "gain", "step"):
            for state in range(3):
                machine, other = sample()
                if change == "leave":
                    other.leave[state] += 1
                elif change == "gain":
                    other.gain[state]["b"] += 1
                else:
                    other.step[state]["a"] = 0
                self.check(False, SAMPLE_PAPER, machine, other)

    def test_random_spoilt_papers(self):
        rng = random.Random(34)
        for _ in range(60):
            machine = random_machine(rng, "ab", rng.randint(1, 4), 9)
            other = same_machine(rng, machine, 9)
            paper = alike_paper(machine, other)
            self.check(True, paper, machine, other)
            for at, (pair, number) in enumerate(paper):
                self.check(False, paper[:at] + [(pair, number + rng.choice([-1, 1]))] + paper[at + 1:], machine, other)
                # Each pair is met, so that (0, 0) or another one lacks it.
                self.check(False, paper[:at] + paper[at + 1:], machine, other)

    def test_what_is_passed_in_is_not_changed(self):
        machine, other = sample()
        before = copy.deepcopy((shown(machine), shown(other)))
        alike_paper(machine, other).clear()
        telling_career(machine, still("ab")).append("x")
        verify_alike(machine, other, list(SAMPLE_PAPER))
        are_alike(machine, other)
        self.assertEqual((shown(machine), shown(other)), before)
        self.assertEqual(alike_paper(machine, other), SAMPLE_PAPER)


if __name__ == "__main__":
    unittest.main()
