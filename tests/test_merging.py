"""The sum of two machines, a machine times a number, the better of two, points [30] and [31]."""

import copy
import random
import unittest

from movedyears.alike import are_alike
from movedyears.errors import TooManyStates, UnlikeFacts
from movedyears.machines import Machine, is_machine, made
from movedyears.merging import better_of, sum_of, times
from movedyears.pairs import Pairs
from movedyears.rules import parse_rules
from movedyears.runs import total
from samples import careers, machine_of, random_machine, random_rules, same_machine, shown, still

MANY = 10 ** 6


def further(pairs, best, sign):
    """Return the most that is ahead (or, by the sign, behind) behind one more year, by places."""
    found = {}
    for place, value in best.items():
        for fact in pairs.facts:
            behind = pairs.step[place][fact]
            found[behind] = max(found.get(behind, -MANY), value + sign * pairs.gain[place][fact])
    return found


def on_ring(pairs, begin, sign):
    """Return whether some career leads from a place back to it with more than 0."""
    best = {begin: 0}
    for _ in range(pairs.many()):
        best = further(pairs, best, sign)
        if best.get(begin, 0) > 0:
            return True
    return False


def most_from(pairs, place, sign):
    """Return the most that is ahead (or, by the sign, behind) on careers from a place on; None without end."""
    best = {place: 0}
    found = sign * pairs.end[place]
    for _ in range(pairs.many()):
        if any([on_ring(pairs, at, sign) for at in best]):
            return None
        best = further(pairs, best, sign)
        found = max([found] + [value + sign * pairs.end[at] for at, value in best.items()])
    return found


def better_steps(machine, other, most):
    """Return the next states of the better one, by the words of the document, or None if there are too many."""
    pairs = Pairs(machine, other, [(0, 0)])
    ahead = [most_from(pairs, place, 1) for place in range(pairs.many())]
    behind = [most_from(pairs, place, -1) for place in range(pairs.many())]

    def judged(place, lead):
        if lead in ("first", "second"):
            return lead
        if behind[place] is not None and lead >= behind[place]:
            return "first"
        if ahead[place] is not None and -lead >= ahead[place]:
            return "second"
        return lead

    met = [(0, judged(0, 0))]
    steps = []
    for place, lead in met:
        steps.append([])
        for fact in pairs.facts:
            to = pairs.step[place][fact]
            gone_on = lead if isinstance(lead, str) else lead + pairs.gain[place][fact]
            state = (to, judged(to, gone_on))
            if state not in met:
                met.append(state)
            steps[-1].append(met.index(state))
        if len(met) > most:
            return None
    return steps


class SumOf(unittest.TestCase):
    def test_written_out(self):
        machine = machine_of(["b", "a"], [([1, 0], [1, 2], 3), ([0, 1], [4, 5], 6)])
        other = machine_of(["b", "a"], [([0, 1], [10, 20], 30), ([2, 1], [40, 50], 60), ([2, 2], [70, 80], 90)])
        found = sum_of(machine, other)
        self.assertIs(type(found), Machine)
        # The pairs (0, 0), (1, 0), (0, 1), (1, 1), (1, 2), (0, 2), in this order.
        step = [[1, 2], [0, 3], [4, 2], [5, 3], [5, 4], [4, 5]]
        gain = [[11, 22], [14, 25], [41, 52], [44, 55], [74, 85], [71, 82]]
        rows = list(zip(step, gain, [33, 36, 63, 66, 96, 93]))
        self.assertEqual(shown(found), shown(machine_of(["b", "a"], rows)))

    def test_one_state(self):
        found = sum_of(machine_of(["a"], [([0], [1], -5)]), machine_of(["a"], [([0], [-3], 7)]))
        self.assertEqual(shown(found), (["a"], [{"a": 0}], [{"a": -2}], [2]))

    def test_on_all_careers(self):
        rng = random.Random(101)
        for turn in range(60):
            machine = random_machine(rng, ["b", "a"], rng.randint(1, 4), 9)
            other = random_machine(rng, ["b", "a"], rng.randint(1, 4), 9)
            if turn % 3 == 0:
                machine, other = [made(random_rules(rng, ["b", "a"], ["x"]))[0] for _ in range(2)]
            found = sum_of(machine, other)
            self.assertTrue(is_machine(found))
            pairs = Pairs(machine, other, [(0, 0)])
            self.assertEqual((found.facts, found.step), (pairs.facts, pairs.step))
            for (first, second), leave in zip(pairs.pairs, found.leave):
                self.assertEqual(leave, machine.leave[first] + other.leave[second])
            for career in careers(["b", "a"], 6):
                self.assertEqual(total(found, 0, career), total(machine, 0, career) + total(other, 0, career))

    def test_unlike_facts(self):
        for facts in ("ba", "a", "abc"):
            with self.assertRaises(UnlikeFacts):
                sum_of(still("ab"), still(facts))


class Times(unittest.TestCase):
    def test_written_out(self):
        machine = machine_of(["b", "a"], [([1, 0], [1, -2], 3), ([0, 1], [0, 5], -6)])
        for number in (0, 1, 2, -1, -7, 10 ** 20):
            found = times(machine, number)
            self.assertIs(type(found), Machine)
            rows = [([1, 0], [number, -2 * number], 3 * number), ([0, 1], [0, 5 * number], -6 * number)]
            self.assertEqual(shown(found), shown(machine_of(["b", "a"], rows)))

    def test_states_that_are_not_come_to_stay(self):
        machine = machine_of(["a"], [([0], [1], 2), ([0], [3], 4)])
        self.assertEqual(shown(times(machine, 2)), shown(machine_of(["a"], [([0], [2], 4), ([0], [6], 8)])))

    def test_on_all_careers(self):
        rng = random.Random(102)
        for turn in range(30):
            machine = random_machine(rng, ["b", "a"], rng.randint(1, 4), 9)
            if turn % 3 == 0:
                machine = made(random_rules(rng, ["b", "a"], ["x"]))[0]
            number = rng.randint(-5, 5)
            for career in careers(["b", "a"], 5):
                self.assertEqual(total(times(machine, number), 0, career), number * total(machine, 0, career))


class BetterOf(unittest.TestCase):
    def check(self, machine, other, steps, longest=6):
        """Check the order and number of the states, and the totals on all careers up to a length."""
        found = better_of(machine, other, len(steps))
        self.assertIs(type(found), Machine)
        self.assertTrue(is_machine(found))
        self.assertEqual(found.facts, machine.facts)
        self.assertEqual([list(row.values()) for row in found.step], steps)
        self.check_totals(found, machine, other, longest)
        with self.assertRaises(TooManyStates):
            better_of(machine, other, len(steps) - 1)

    def check_totals(self, found, machine, other, longest):
        for career in careers(machine.facts, longest):
            self.assertEqual(total(found, 0, career), max(total(machine, 0, career), total(other, 0, career)))

    def test_a_lead_that_is_a_word_from_the_beginning(self):
        machine = machine_of(["a", "b"], [([0, 1], [3, 2], 1), ([1, 1], [0, 5], 0)])
        self.check(machine, still("ab"), [[0, 1], [1, 1]])
        self.check(still("ab"), machine, [[0, 1], [1, 1]])

    def test_totals_that_are_always_equal(self):
        machine = machine_of(["a", "b"], [([1, 0], [5, 1], 0), ([1, 0], [2, 3], 7)])
        other = machine_of(["a", "b"], [([2, 0], [9, 1], 0), ([2, 0], [9, 6], 10), ([1, 0], [-5, -1], 3)])
        self.check(machine, other, [[1, 0], [2, 0], [1, 0]])
        self.check(other, machine, [[1, 0], [2, 0], [1, 0]])
        self.check(machine, machine, [[1, 0], [1, 0]])
        rng = random.Random(103)
        for _ in range(40):
            machine = random_machine(rng, ["b", "a"], rng.randint(1, 4), 5)
            other = same_machine(rng, machine, 5)
            found = better_of(machine, other, MANY)
            self.assertEqual(found.step, Pairs(machine, other, [(0, 0)]).step)
            self.assertTrue(are_alike(found, machine))

    def test_a_lead_that_becomes_a_word_later(self):
        # The first year decides which one is ahead for good.
        machine = machine_of(["a", "b"], [([1, 1], [5, 0], 0), ([1, 1], [1, 1], 0)])
        other = machine_of(["a", "b"], [([1, 1], [0, 7], 0), ([1, 1], [1, 1], 0)])
        self.check(machine, other, [[1, 2], [1, 1], [2, 2]])
        self.check(other, machine, [[1, 2], [1, 1], [2, 2]])
        # With the facts the other way round the first one is "second".
        machine, other = machine_of(["b", "a"], [([1, 1], [0, 5], 0), ([1, 1], [1, 1], 0)]), machine_of(
            ["b", "a"], [([1, 1], [7, 0], 0), ([1, 1], [1, 1], 0)])
        self.check(machine, other, [[1, 2], [1, 1], [2, 2]])

    def test_leads_that_stay_numbers(self):
        # By "a" the first one gets ahead, once; by "b" the second one, once.
        rows = [([1, 0], [3, 0], 0), ([1, 1], [0, 0], 0)]
        machine = machine_of(["a", "b"], rows)
        other = machine_of(["a", "b"], [([0, 1], [0, 3], 0), ([1, 1], [0, 0], 0)])
        # Behind "a" the first one, behind "b" the second one is never behind any more.
        self.check(machine, other, [[1, 2], [1, 3], [4, 2], [3, 3], [4, 4]])
        # Now the lead 3 behind "a" can still be made up for; behind "b" the second one is ahead for good.
        other.gain[0]["b"] = 4
        self.check(machine, other, [[1, 2], [1, 3], [3, 2], [3, 3]])

    def test_what_leaving_pays_decides(self):
        # The first one is ahead by the years and behind on leaving at state 1.
        machine = machine_of(["a", "b"], [([1, 0], [5, 0], 0), ([1, 0], [0, 4], -9)])
        self.check_totals(better_of(machine, still("ab"), MANY), machine, still("ab"), 7)
        for leave in (-6, -5, -4, 0, 3, 6):
            machine = machine_of(["a"], [([1], [5], 0), ([1], [0], leave)])
            word = leave >= -5
            self.check(machine, still("a"), [[1], [1]], 4)
            found = better_of(machine, still("a"), 2)
            self.assertEqual(total(found, 0, ["a"]), 5 + leave if word else 0)

    def test_leaving_at_a_lead_that_is_a_number(self):
        # From year to year the lead is 2 or 0; leaving brings the first one 5 or the second one 6.
        machine = machine_of(["a", "b"], [([1, 0], [2, 0], 5), ([0, 1], [0, 0], 0)])
        other = machine_of(["a", "b"], [([1, 0], [0, 0], 0), ([0, 1], [2, 0], 6)])
        found = better_of(machine, other, 2)
        self.assertEqual([list(row.values()) for row in found.step], [[1, 0], [0, 1]])
        self.check_totals(found, machine, other, 8)

    def test_too_many_states(self):
        # The lead goes up by "a" and down by "b" without end.
        machine, other = machine_of(["a", "b"], [([0, 0], [1, 0], 0)]), machine_of(["a", "b"], [([0, 0], [0, 1], 0)])
        for most in (0, 1, 2, 3, 10, 500):
            with self.assertRaises(TooManyStates):
                better_of(machine, other, most)

    def test_no_states_at_all_are_asked_for(self):
        for most in (0, -1):
            with self.assertRaises(TooManyStates):
                better_of(still("ab"), still("ab"), most)
        self.assertEqual(better_of(still("ab"), still("ab"), 1).many(), 1)

    def test_unlike_facts(self):
        for most in (0, 1, 100):
            with self.assertRaises(UnlikeFacts):
                better_of(still("ab"), still("ba"), most)

    def test_against_all_careers(self):
        rng = random.Random(104)
        kinds = {"few": 0, "some": 0, "many": 0}
        for turn in range(400):
            machine = random_machine(rng, ["b", "a"], rng.randint(1, 4), turn % 4)
            other = random_machine(rng, ["b", "a"], rng.randint(1, 3), turn % 3)
            for state in range(1, machine.many()):
                # The later ones are alike to the end, so that leads become words.
                if turn % 5:
                    machine.step[state] = {fact: rng.randrange(state, machine.many()) for fact in ["b", "a"]}
                    machine.gain[state] = {fact: 0 if machine.step[state][fact] == state else 2 for fact in ["b", "a"]}
            if turn % 2:
                other = times(other, 0)
            steps = better_steps(machine, other, 60)
            if steps is None:
                kinds["many"] += 1
                with self.assertRaises(TooManyStates):
                    better_of(machine, other, 60)
                continue
            kinds["some" if len(steps) > 2 else "few"] += 1
            self.check(machine, other, steps)
        self.assertGreater(min(kinds.values()), 40)

    def test_machines_of_rules(self):
        text = "facts work pause\ncount years 4 work 1\ngain {} work if years < 4\nleave {} if years >= 4"
        machine = made(parse_rules(text.format(3, 5)))[0]
        other = made(parse_rules(text.format(2, 10)))[0]
        # Up to four years the first one is ahead by 1 each; then it leaves with 5 less.
        found = better_of(machine, other, 5)
        self.assertEqual([list(row.values()) for row in found.step], [[1, 0], [2, 1], [3, 2], [4, 3], [4, 4]])
        self.check_totals(found, machine, other, 7)
        rng = random.Random(105)
        for _ in range(30):
            machine, other = [made(random_rules(rng, ["work", "pause"], ["x"]))[0] for _ in range(2)]
            steps = better_steps(machine, other, 40)
            if steps is not None:
                self.check(machine, other, steps, 5)


class Unchanged(unittest.TestCase):
    def test_what_is_passed_in_is_not_changed(self):
        rng = random.Random(106)
        machine, other = random_machine(rng, ["a", "b"], 3, 5), times(random_machine(rng, ["a", "b"], 1, 5), 0)
        before = copy.deepcopy((shown(machine), shown(other)))
        for found in (sum_of(machine, other), times(machine, 1), better_of(machine, machine, 50)):
            found.facts.clear()
            for row in found.step + found.gain:
                row.clear()
            found.step.clear()
            found.gain.clear()
            found.leave.clear()
        self.assertEqual((shown(machine), shown(other)), before)
        with self.assertRaises(TooManyStates):
            better_of(machine, other, 0)
        self.assertEqual((shown(machine), shown(other)), before)


if __name__ == "__main__":
    unittest.main()
