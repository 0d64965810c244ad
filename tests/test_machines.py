"""Machines and the machine of rules, points [3], [5], [6], [9] to [11]."""

import copy
import random
import unittest

from movedyears.machines import (
    Machine, first_counts, is_machine, leave_gain, made, year_counts, year_gain,
)
from movedyears.rules import Rules, parse_rules
from movedyears.runs import total
from samples import careers, fields, machine_of, odd_names, pension, random_rules, shown, smallest


class Fields(unittest.TestCase):
    def parts(self):
        return (["a", "b"], [{"a": 0, "b": 1}, {"a": 1, "b": 0}], [{"a": 5, "b": -5}, {"a": 0, "b": 7}], [3, -4])

    def test_fields(self):
        machine = Machine(*self.parts())
        self.assertEqual(shown(machine), self.parts())
        self.assertEqual(machine.many(), 2)

    def test_fields_by_the_names_of_the_interface(self):
        facts, step, gain, leave = self.parts()
        self.assertEqual(shown(Machine(leave=leave, gain=gain, step=step, facts=facts)), self.parts())

    def test_what_is_passed_in_is_not_kept(self):
        facts, step, gain, leave = self.parts()
        machine = Machine(facts, step, gain, leave)
        step[0]["a"] = 9
        gain[1].clear()
        facts.reverse()
        step.append({})
        gain.append({})
        leave.clear()
        self.assertEqual(shown(machine), self.parts())

    def test_what_is_passed_in_is_not_changed(self):
        handed = self.parts()
        machine = Machine(*handed)
        machine.facts.clear()
        machine.step[0]["b"] = 7
        machine.step.pop()
        machine.gain[1]["b"] = 8
        machine.gain.append({})
        machine.leave[0] = 1
        self.assertEqual(handed, self.parts())

    def test_many_counts_the_states(self):
        self.assertEqual(Machine(["a"], [], [], []).many(), 0)
        for many in range(1, 5):
            self.assertEqual(Machine(["a"], [{"a": 0}] * many, [{"a": 0}] * many, [0] * many).many(), many)
        self.assertEqual(Machine(["a"], [{"a": 0}], [], [1, 2, 3]).many(), 3)

    def test_one_row_for_several_states_becomes_several_rows(self):
        row = {"a": 0}
        machine = Machine(["a"], [row, row], [row, row], [0, 0])
        machine.step[0]["a"] = 1
        self.assertEqual(shown(machine), (["a"], [{"a": 1}, {"a": 0}], [{"a": 0}, {"a": 0}], [0, 0]))


class IsMachine(unittest.TestCase):
    def parts(self):
        return {
            "facts": ["a", "b"],
            "step": [{"a": 0, "b": 1}, {"a": 2, "b": 0}, {"a": 2, "b": 2}],
            "gain": [{"a": 1, "b": 2}, {"a": 3, "b": 4}, {"a": 5, "b": 6}],
            "leave": [7, 8, 9],
        }

    def check(self, right, parts):
        before = copy.deepcopy(parts)
        machine = Machine(**parts)
        held = copy.deepcopy(shown(machine))
        self.assertIs(is_machine(machine), right)
        self.assertEqual(shown(machine), held)
        self.assertEqual(parts, before)

    def test_right_ones(self):
        self.check(True, self.parts())
        self.check(True, {"facts": ["a"], "step": [{"a": 0}], "gain": [{"a": -1000}], "leave": [0]})
        self.check(True, {"facts": [], "step": [{}], "gain": [{}], "leave": [5]})
        for rules in (smallest(), pension(), odd_names()):
            self.assertIs(is_machine(made(rules)[0]), True)

    def test_the_order_within_a_row_is_free(self):
        parts = self.parts()
        parts["step"][1] = {"b": 0, "a": 2}
        parts["gain"][2] = {"b": 6, "a": 5}
        self.check(True, parts)

    def test_a_state_that_is_not_come_to(self):
        parts = self.parts()
        parts["step"][1]["a"] = 0
        self.check(True, parts)

    def test_no_state(self):
        self.check(False, {"facts": ["a"], "step": [], "gain": [], "leave": []})
        self.check(False, {"facts": [], "step": [], "gain": [], "leave": []})

    def test_rows_too_few_or_too_many(self):
        for name, more in (("step", {"a": 0, "b": 0}), ("gain", {"a": 0, "b": 0}), ("leave", 0)):
            parts = self.parts()
            parts[name].pop()
            # A row less in leave would make state 2 one that does not exist, too.
            parts["step"] = [{"a": 0, "b": 1} for _ in parts["step"]]
            self.check(False, parts)
            parts = self.parts()
            parts[name].append(more)
            self.check(False, parts)
            parts = self.parts()
            parts[name].clear()
            self.check(False, parts)

    def test_rows_of_both_kinds_too_few_or_too_many(self):
        parts = self.parts()
        parts["step"] = [{"a": 0, "b": 1}] * 2
        parts["gain"].pop()
        self.check(False, parts)
        parts = self.parts()
        parts["step"].append({"a": 0, "b": 0})
        parts["gain"].append({"a": 0, "b": 0})
        self.check(False, parts)
        parts = self.parts()
        parts["step"].pop()
        parts["gain"].append({"a": 0, "b": 0})
        self.check(False, parts)

    def test_a_fact_too_few_or_too_many_in_a_row(self):
        for name in ("step", "gain"):
            for at in range(3):
                for fact in ("a", "b"):
                    parts = self.parts()
                    del parts[name][at][fact]
                    self.check(False, parts)
                    parts[name][at]["c"] = 0
                    self.check(False, parts)
                parts = self.parts()
                parts[name][at]["c"] = 0
                self.check(False, parts)
                parts[name][at] = {}
                self.check(False, parts)

    def test_a_fact_that_is_in_no_row(self):
        parts = self.parts()
        parts["facts"].append("c")
        self.check(False, parts)

    def test_a_next_state_that_does_not_exist(self):
        for at in range(3):
            for fact in ("a", "b"):
                for state in (3, 4, 100, -1, -2, -3, -100):
                    parts = self.parts()
                    parts["step"][at][fact] = state
                    self.check(False, parts)
                for state in (0, 1, 2):
                    parts = self.parts()
                    parts["step"][at][fact] = state
                    self.check(True, parts)

    def test_gains_may_be_any(self):
        parts = self.parts()
        parts["gain"][0]["a"] = -10 ** 30
        parts["leave"][2] = 10 ** 30
        self.check(True, parts)


class Counts(unittest.TestCase):
    def test_at_the_beginning_all_are_0(self):
        self.assertEqual(first_counts(smallest()), {})
        counts = first_counts(pension())
        self.assertEqual(list(counts.items()), [("years", 0), ("idle", 0), ("bonus", 0)])

    def one(self, cap, steps, value, fact):
        rules = Rules(["a", "b", "c"], [("n", cap, steps)], [], [])
        return year_counts(rules, {"n": value}, fact)["n"]

    def test_a_number_as_the_step(self):
        for cap in range(1, 21):
            for step in range(1, cap + 1):
                for value in range(cap + 1):
                    self.assertEqual(self.one(cap, {"a": step}, value, "a"), min(value + step, cap))

    def test_at_and_next_to_the_cap(self):
        self.assertEqual([self.one(5, {"a": 1}, value, "a") for value in (3, 4, 5)], [4, 5, 5])
        self.assertEqual([self.one(5, {"a": 2}, value, "a") for value in (2, 3, 4, 5)], [4, 5, 5, 5])
        self.assertEqual([self.one(5, {"a": 5}, value, "a") for value in (0, 1, 5)], [5, 5, 5])

    def test_reset(self):
        for value in range(6):
            self.assertEqual(self.one(5, {"a": 1, "b": "reset"}, value, "b"), 0)

    def test_without_a_step(self):
        for value in range(6):
            self.assertEqual(self.one(5, {"a": 1, "b": "reset"}, value, "c"), value)
            self.assertEqual(self.one(5, {}, value, "a"), value)

    def test_several_counters(self):
        rules = pension()
        counts = {"years": 19, "idle": 2, "bonus": 3}
        work = year_counts(rules, counts, "work")
        self.assertEqual(list(work.items()), [("years", 20), ("idle", 2), ("bonus", 3)])
        self.assertEqual(year_counts(rules, counts, "pause"), {"years": 19, "idle": 2, "bonus": 5})
        self.assertEqual(year_counts(rules, counts, "strike"), {"years": 0, "idle": 2, "bonus": 3})

    def test_the_order_is_that_of_the_counters(self):
        counts = {"bonus": 1, "idle": 2, "years": 3}
        found = year_counts(pension(), counts, "work")
        self.assertEqual(list(found.items()), [("years", 4), ("idle", 2), ("bonus", 1)])

    def test_what_is_passed_in_is_not_changed(self):
        rules, counts = pension(), {"years": 3, "idle": 0, "bonus": 0}
        before = copy.deepcopy(fields(rules))
        for fact in rules.facts:
            self.assertIsNot(year_counts(rules, counts, fact), counts)
        first_counts(rules)["years"] = 7
        self.assertEqual(first_counts(rules)["years"], 0)
        self.assertEqual(counts, {"years": 3, "idle": 0, "bonus": 0})
        self.assertEqual(fields(rules), before)


class Paid(unittest.TestCase):
    def test_without_gains_and_leaves(self):
        self.assertEqual(year_gain(smallest(), {}, "work"), 0)
        self.assertEqual(leave_gain(smallest(), {}), 0)

    def test_gains_for_this_fact_whose_conditions_hold(self):
        rules = pension()
        for years in range(21):
            counts = {"years": years, "idle": 0, "bonus": 0}
            self.assertEqual(year_gain(rules, counts, "work"), 100)
            self.assertEqual(year_gain(rules, counts, "pause"), -20 if years < 3 else 0)
            self.assertEqual(year_gain(rules, counts, "strike"), 0)

    def test_several_gains_at_once(self):
        text = "facts a b\ncount n 9 a 1\ngain 1 a\ngain 20 a if n >= 2\ngain 300 a if n >= 2 and n < 4\ngain -400 b"
        rules = parse_rules(text)
        brought = [year_gain(rules, {"n": value}, "a") for value in range(6)]
        self.assertEqual(brought, [1, 1, 321, 321, 21, 21])
        self.assertEqual([year_gain(rules, {"n": value}, "b") for value in range(6)], [-400] * 6)

    def test_the_same_gain_twice_counts_twice(self):
        rules = parse_rules("facts a\ngain 5 a\ngain 5 a\nleave 3\nleave 3")
        self.assertEqual(year_gain(rules, {}, "a"), 10)
        self.assertEqual(leave_gain(rules, {}), 6)

    def test_leaves_whose_conditions_hold(self):
        paid = [leave_gain(pension(), {"years": years, "idle": 1, "bonus": 0}) for years in (0, 9, 10, 19, 20)]
        self.assertEqual(paid, [-993, -993, -1000, -1000, 0])
        paid = [leave_gain(pension(), {"years": years, "idle": 0, "bonus": 0}) for years in (0, 9, 10, 19, 20)]
        self.assertEqual(paid, [-1000, -1000, -1000, -1000, 0])

    def test_gains_are_judged_by_the_values_ahead_of_the_year(self):
        rules = parse_rules("facts a\ncount n 2 a 1\ngain 10 a if n < 1\ngain 100 a if n >= 1\nleave 1000 if n >= 2")
        self.assertEqual(year_gain(rules, {"n": 0}, "a"), 10)
        machine = made(rules)[0]
        self.assertEqual([total(machine, 0, ["a"] * many) for many in range(4)], [0, 10, 1110, 1210])

    def test_what_is_passed_in_is_not_changed(self):
        rules, counts = pension(), {"years": 3, "idle": 0, "bonus": 0}
        before = copy.deepcopy(fields(rules))
        year_gain(rules, counts, "work")
        leave_gain(rules, counts)
        self.assertEqual(counts, {"years": 3, "idle": 0, "bonus": 0})
        self.assertEqual(fields(rules), before)


class Made(unittest.TestCase):
    def check(self, text, rows, counts, more=()):
        rules = parse_rules(text)
        answer = made(rules, more) if more else made(rules)
        self.assertIs(type(answer), tuple)
        machine, found = answer
        self.assertIsInstance(machine, Machine)
        self.assertEqual(shown(machine), shown(machine_of(rules.facts, rows)))
        self.assertEqual(found, [dict(zip(rules.names(), row)) for row in counts])
        self.assertEqual([list(row) for row in found], [rules.names()] * len(found))
        for row in machine.step + machine.gain:
            self.assertEqual(list(row), rules.facts)

    def test_no_counter(self):
        self.check("facts a b\ngain 3 a\ngain -4 b\nleave 5", [([0, 0], [3, -4], 5)], [()])
        self.check("facts a", [([0], [0], 0)], [()])

    def test_one_counter(self):
        text = "facts a b\ncount n 3 a 2 b reset\ngain 1 a if n >= 2\ngain 7 b if n < 3\nleave 9 if n >= 3"
        rows = [([1, 0], [0, 7], 0), ([2, 0], [1, 7], 0), ([2, 0], [1, 0], 9)]
        self.check(text, rows, [(0,), (2,), (3,)])

    def test_only_values_that_are_met_are_states(self):
        self.check("facts a\ncount n 20", [([0], [0], 0)], [(0,)])
        self.check("facts a\ncount n 20 a reset", [([0], [0], 0)], [(0,)])
        self.check("facts a\ncount n 20 a 20", [([1], [0], 0), ([1], [0], 0)], [(0,), (20,)])

    def test_two_counters(self):
        text = "facts a b\ncount x 2 a 1\ncount y 1 b 1\ngain 5 b if x >= 1 and y < 1"
        steps = [[1, 2], [3, 4], [4, 2], [3, 5], [5, 4], [5, 5]]
        gains = [0, 5, 0, 5, 0, 0]
        rows = [(step, [0, gain], 0) for step, gain in zip(steps, gains)]
        self.check(text, rows, [(0, 0), (1, 0), (0, 1), (2, 0), (1, 1), (2, 1)])

    def test_the_order_of_the_facts_numbers_the_states(self):
        steps = [[1, 2], [1, 3], [3, 4], [3, 5], [5, 4], [5, 5]]
        rows = [(step, [0, 0], 0) for step in steps]
        counts = [(0, 0), (0, 1), (1, 0), (1, 1), (2, 0), (2, 1)]
        self.check("facts b a\ncount x 2 a 1\ncount y 1 b 1", rows, counts)
        # The order of the steps in a dict does not.
        rules = Rules(["b", "a"], [("n", 3, {"a": 1, "b": 2})], [], [])
        self.assertEqual(made(rules)[1], [{"n": 0}, {"n": 2}, {"n": 1}, {"n": 3}])

    def test_the_search_is_one_in_breadth(self):
        machine, counts = made(parse_rules("facts a b\ncount n 6 a 1 b 3"))
        self.assertEqual([row["n"] for row in counts], [0, 1, 3, 2, 4, 6, 5])
        self.assertEqual(machine.step[1], {"a": 3, "b": 4})

    def test_three_counters(self):
        text = "facts a b c\ncount x 1 a 1 c reset\ncount y 1 b 1 c reset\ncount z 1 c 1"
        counts = [(0, 0, 0), (1, 0, 0), (0, 1, 0), (0, 0, 1), (1, 1, 0), (1, 0, 1), (0, 1, 1), (1, 1, 1)]
        steps = [[1, 2, 3], [1, 4, 3], [4, 2, 3], [5, 6, 3], [4, 4, 3], [5, 7, 3], [7, 6, 3], [7, 7, 3]]
        self.check(text, [(step, [0, 0, 0], 0) for step in steps], counts)

    def test_further_beginnings_that_are_new(self):
        rows = [([1], [0], 0), ([2], [0], 0), ([2], [0], 9), ([2], [0], 0)]
        text = "facts a\ncount n 4 a 2\nleave 9 if n >= 4"
        self.check(text, rows, [(0,), (2,), (4,), (3,)], [{"n": 3}])
        rows = [([1], [0], 0), ([2], [0], 0), ([2], [0], 9), ([4], [0], 0), ([2], [0], 0)]
        self.check(text, rows, [(0,), (2,), (4,), (1,), (3,)], [{"n": 1}])

    def test_the_search_goes_on_from_one_ahead_of_the_next_one(self):
        counts = made(parse_rules("facts a\ncount n 9 a 2"), [{"n": 1}, {"n": 7}])[1]
        self.assertEqual([row["n"] for row in counts], [0, 2, 4, 6, 8, 9, 1, 3, 5, 7])
        counts = made(parse_rules("facts a\ncount n 9 a 2"), [{"n": 7}, {"n": 1}])[1]
        self.assertEqual([row["n"] for row in counts], [0, 2, 4, 6, 8, 9, 7, 1, 3, 5])

    def test_further_beginnings_that_were_met_already(self):
        rules = parse_rules("facts a b\ncount n 9 a 2 b reset")
        alone = made(rules)
        for more in ([], (), [{"n": 0}], [{"n": 9}, {"n": 0}, {"n": 4}, {"n": 4}]):
            machine, counts = made(rules, more)
            self.assertEqual((shown(machine), counts), (shown(alone[0]), alone[1]))

    def test_further_beginnings_that_stand_twice(self):
        rules = parse_rules("facts a\ncount n 9 a 2")
        counts = made(rules, [{"n": 7}, {"n": 7}, {"n": 2}, {"n": 5}, {"n": 7}, {"n": 5}, {"n": 3}])[1]
        self.assertEqual([row["n"] for row in counts], [0, 2, 4, 6, 8, 9, 7, 5, 3])

    def test_further_beginnings_in_a_tuple(self):
        self.assertEqual(len(made(parse_rules("facts a\ncount n 9 a 2"), ({"n": 7}, {"n": 1}))[1]), 10)

    def test_further_beginnings_with_several_counters(self):
        text = "facts a b\ncount x 2 a 1\ncount y 2 b 2"
        more = [{"x": 1, "y": 1}, {"x": 0, "y": 1}]
        counts = made(parse_rules(text), more)[1]
        pairs = [(row["x"], row["y"]) for row in counts]
        self.assertEqual(pairs, [(0, 0), (1, 0), (0, 2), (2, 0), (1, 2), (2, 2), (1, 1), (2, 1), (0, 1)])

    def test_a_further_beginning_without_counters(self):
        self.check("facts a\ngain 2 a", [([0], [2], 0)], [()], [{}, {}])

    def test_what_is_passed_in_is_neither_changed_nor_kept(self):
        rules = parse_rules("facts a b\ncount n 3 a 1\ngain 1 a if n < 2")
        before = copy.deepcopy(fields(rules))
        more = [{"n": 3}, {"n": 1}]
        machine, counts = made(rules, more)
        self.assertEqual(more, [{"n": 3}, {"n": 1}])
        self.assertEqual(fields(rules), before)
        machine.facts.append("c")
        for row in counts:
            row["n"] = 9
        self.assertEqual(more, [{"n": 3}, {"n": 1}])
        self.assertEqual(fields(rules), before)
        again, found = made(rules, more)
        self.assertEqual(again.facts, ["a", "b"])
        self.assertEqual([row["n"] for row in found], [0, 1, 2, 3])

    def test_all_values_of_three_counters(self):
        text = "facts a b c\ncount x 20 a 1\ncount y 20 b 1\ncount z 20 c 1\n"
        text += "gain 1 a if x >= 20 and y >= 20 and z >= 20"
        machine, counts = made(parse_rules(text))
        self.assertEqual(machine.many(), 21 ** 3)
        self.assertIs(is_machine(machine), True)
        self.assertEqual(counts[-1], {"x": 20, "y": 20, "z": 20})
        self.assertEqual(sum(row["a"] for row in machine.gain), 1)


def sum_of_rules(rules, career):
    """Return what point [6] tells, in a way of its own."""
    counts = {counter[0]: 0 for counter in rules.counters}

    def paid(amounts):
        fitting = 0
        for amount, condition in amounts:
            right = [(counts[name] >= least) == (sign == ">=") for name, sign, least in condition]
            fitting += amount if all(right) else 0
        return fitting

    got = 0
    for fact in career:
        got += paid([(amount, condition) for amount, name, condition in rules.gains if name == fact])
        for name, cap, steps in rules.counters:
            step = steps.get(fact, 0)
            counts[name] = 0 if step == "reset" else min(cap, counts[name] + step)
    return got + paid(rules.leaves)


class Totals(unittest.TestCase):
    def check(self, rules, longest):
        machine = made(rules)[0]
        for career in careers(rules.facts, longest):
            self.assertEqual(total(machine, 0, career), sum_of_rules(rules, career))

    def test_the_total_is_the_sum_that_the_rules_tell(self):
        self.check(smallest(), 5)
        self.check(pension(), 6)
        self.check(odd_names(), 4)

    def test_long_careers(self):
        rng = random.Random(5)
        rules = pension()
        machine = made(rules)[0]
        for _ in range(30):
            career = [rng.choice(["work", "work", "work", "work", "pause"]) for _ in range(rng.randint(15, 60))]
            self.assertEqual(total(machine, 0, career), sum_of_rules(rules, career))

    def test_random_rules(self):
        rng = random.Random(6)
        for _ in range(60):
            names = ["x", "y", "z"][:rng.randint(0, 3)]
            self.check(random_rules(rng, ["a", "b", "c"][:rng.randint(1, 3)], names), 5)


if __name__ == "__main__":
    unittest.main()
