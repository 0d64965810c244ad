"""Rules, point [5], and their text, point [7]."""

import copy
import unittest

from movedyears.rules import Rules, format_rules, parse_rules
from samples import ODD_TEXT, PENSION_TEXT, fields, odd_names, pension, smallest


class Fields(unittest.TestCase):
    def test_fields(self):
        steps = {"work": 1}
        rules = Rules(["work"], [("c", 3, steps)], [(5, "work", [])], [(6, [("c", "<", 2)])])
        self.assertEqual(rules.facts, ["work"])
        self.assertEqual(rules.counters, [("c", 3, {"work": 1})])
        self.assertEqual(rules.gains, [(5, "work", [])])
        self.assertEqual(rules.leaves, [(6, [("c", "<", 2)])])

    def test_fields_by_the_names_of_the_interface(self):
        rules = Rules(leaves=[(1, [])], gains=[(2, "a", [])], counters=[("c", 3, {})], facts=["a"])
        self.assertEqual(fields(rules), (["a"], [("c", 3, {})], [(2, "a", [])], [(1, [])]))

    def test_the_lists_are_new(self):
        facts, counters, gains, leaves = ["a"], [("c", 3, {"a": 1})], [(1, "a", [])], [(2, [])]
        rules = Rules(facts, counters, gains, leaves)
        facts.append("b")
        counters.clear()
        gains.append((2, "b", []))
        del leaves[0]
        self.assertEqual(fields(rules), (["a"], [("c", 3, {"a": 1})], [(1, "a", [])], [(2, [])]))

    def test_what_is_passed_in_is_not_changed(self):
        facts, counters, gains, leaves = ["a"], [("c", 3, {"a": 1})], [(1, "a", [])], [(2, [])]
        rules = Rules(facts, counters, gains, leaves)
        rules.facts.append("b")
        rules.counters.append(("d", 1, {}))
        rules.gains.clear()
        rules.leaves.append((3, []))
        self.assertEqual(facts, ["a"])
        self.assertEqual(counters, [("c", 3, {"a": 1})])
        self.assertEqual(gains, [(1, "a", [])])
        self.assertEqual(leaves, [(2, [])])

    def test_each_list_is_its_own(self):
        shared = []
        rules = Rules(["a"], shared, shared, shared)
        rules.gains.append((1, "a", []))
        self.assertEqual(fields(rules), (["a"], [], [(1, "a", [])], []))

    def test_names(self):
        self.assertEqual(smallest().names(), [])
        self.assertEqual(pension().names(), ["years", "idle", "bonus"])
        self.assertEqual(Rules(["a"], [("z", 1, {}), ("b", 1, {})], [], []).names(), ["z", "b"])

    def test_names_returns_a_new_list(self):
        rules = pension()
        rules.names().append("more")
        self.assertEqual(rules.names(), ["years", "idle", "bonus"])
        self.assertEqual(len(rules.counters), 3)

    def test_no_error_somewhat_beyond_the_limits(self):
        facts = list("abcdefgh")
        counters = [(name, 25, {"a": 25}) for name in "pqrst"]
        rules = Rules(facts, counters, [(5000, "h", [("t", ">=", 30)])] * 25, [(-5000, [])] * 25)
        self.assertEqual(len(rules.gains), 25)
        self.assertEqual(rules.names(), list("pqrst"))
        lines = format_rules(rules).split("\n")
        self.assertEqual(lines[0], "facts a b c d e f g h")
        self.assertEqual(lines[5], "count t 25 a 25")
        self.assertEqual(lines[6], "gain 5000 h if t >= 30")
        self.assertEqual(lines[55], "leave -5000")


class Text(unittest.TestCase):
    def test_facts_only(self):
        self.assertEqual(format_rules(smallest()), "facts work")
        self.assertEqual(format_rules(Rules(list("fedcba"), [], [], [])), "facts f e d c b a")

    def test_all_kinds_of_lines(self):
        self.assertEqual(format_rules(pension()), PENSION_TEXT)

    def test_names_that_are_words_of_the_text(self):
        self.assertEqual(format_rules(odd_names()), ODD_TEXT)

    def test_gains_or_leaves_only(self):
        self.assertEqual(format_rules(Rules(["a"], [], [(-5, "a", [])], [])), "facts a\ngain -5 a")
        self.assertEqual(format_rules(Rules(["a"], [], [], [(0, [])])), "facts a\nleave 0")

    def test_steps_stand_in_the_order_of_the_facts(self):
        rules = Rules(["c", "a", "b"], [("n", 9, {"a": 1, "b": "reset", "c": 9})], [], [])
        self.assertEqual(format_rules(rules), "facts c a b\ncount n 9 c 9 a 1 b reset")

    def test_gains_stay_in_their_order(self):
        rules = Rules(["a", "b"], [], [(2, "b", []), (1, "a", []), (2, "b", [])], [(9, []), (8, [])])
        self.assertEqual(format_rules(rules), "facts a b\ngain 2 b\ngain 1 a\ngain 2 b\nleave 9\nleave 8")

    def test_writing_changes_nothing(self):
        rules = pension()
        before = copy.deepcopy(fields(rules))
        format_rules(rules)
        self.assertEqual(fields(rules), before)


class Reading(unittest.TestCase):
    def check(self, rules):
        read = parse_rules(format_rules(rules))
        self.assertIsInstance(read, Rules)
        self.assertEqual(fields(read), fields(rules))
        self.assertEqual(read.names(), rules.names())

    def test_reading_gives_the_same_rules_back(self):
        self.check(smallest())
        self.check(pension())
        self.check(odd_names())
        self.check(Rules(["a"], [], [(-5, "a", [])], []))
        self.check(Rules(["a"], [], [], [(0, [])]))
        self.check(Rules(["a"], [("c", 1, {"a": 1})], [], [(0, [("c", "<", 1)])]))

    def test_reading_the_written_text(self):
        self.assertEqual(fields(parse_rules(PENSION_TEXT)), fields(pension()))
        self.assertEqual(fields(parse_rules(ODD_TEXT)), fields(odd_names()))

    def test_kinds_of_what_is_read(self):
        rules = parse_rules("facts a\ncount c 3 a 2\ngain 1 a if c >= 1\nleave 2 if c < 1")
        self.assertEqual(rules.counters, [("c", 3, {"a": 2})])
        self.assertEqual(rules.gains, [(1, "a", [("c", ">=", 1)])])
        self.assertEqual(rules.leaves, [(2, [("c", "<", 1)])])
        self.assertIs(type(rules.counters[0]), tuple)
        self.assertIs(type(rules.gains[0]), tuple)
        self.assertIs(type(rules.gains[0][2][0]), tuple)
        self.assertIs(type(rules.leaves[0]), tuple)
        for made in fields(rules):
            self.assertIs(type(made), list)

    def test_reading_is_new_each_time(self):
        first, second = parse_rules(PENSION_TEXT), parse_rules(PENSION_TEXT)
        first.facts.append("more")
        first.counters[0][2]["pause"] = 3
        first.gains[1][2].clear()
        first.leaves.clear()
        self.assertEqual(fields(second), fields(pension()))

    def test_everything_at_its_limits(self):
        facts = ["aaaaaaaa", "b", "c", "d", "e", "zzzzzzzz"]
        counters = [
            ("longname", 20, {fact: 20 for fact in facts}),
            ("y", 1, {fact: 1 for fact in facts}),
            ("z", 20, {fact: "reset" for fact in facts}),
        ]
        tests = [("longname", ">=", 20), ("y", "<", 0), ("y", ">=", 0), ("z", "<", 20)] * 10
        gains = [(1000, "zzzzzzzz", tests), (-1000, "aaaaaaaa", []), (999, "b", []), (-1, "c", [])] * 5
        leaves = [(-1000, tests), (1000, []), (0, []), (-10, [])] * 5
        self.check(Rules(facts, counters, gains, leaves))

    def test_a_test_of_a_number_above_the_cap(self):
        rules = parse_rules("facts a\ncount c 1 a 1\nleave 2 if c >= 20")
        self.assertEqual(rules.leaves, [(2, [("c", ">=", 20)])])

    def test_a_counter_with_the_name_of_a_fact(self):
        rules = parse_rules("facts a b\ncount a 3 a 2\ngain 1 a if a >= 1")
        self.assertEqual(rules.counters, [("a", 3, {"a": 2})])
        self.assertEqual(rules.gains, [(1, "a", [("a", ">=", 1)])])

    def test_facts_called_as_words(self):
        for word in ("if", "reset", "and", "count", "gain", "leave", "facts"):
            self.check(Rules([word], [], [], []))
            self.check(Rules(["a", word], [("c", 5, {"a": 1, word: 2})], [(3, word, [])], []))
            self.check(Rules([word, "a"], [("c", 5, {word: "reset"})], [(3, word, [("c", "<", 1)])], []))

    def test_counters_called_as_words(self):
        for word in ("if", "reset", "and", "count", "gain", "leave", "facts"):
            condition = [(word, ">=", 1), (word, "<", 4), ("c", "<", 2), (word, ">=", 0)]
            counters = [(word, 5, {"a": "reset"}), ("c", 2, {})]
            self.check(Rules(["a"], counters, [(3, "a", condition)], [(4, condition)]))
            self.check(Rules([word], [(word, 5, {word: "reset"})], [(3, word, condition[:2])], []))

    def test_all_words_as_names_at_once(self):
        self.check(Rules(["facts", "reset"], [("facts", 9, {"facts": 1, "reset": "reset"}),
                                              ("reset", 9, {"reset": 3})],
                         [(1, "facts", [("facts", "<", 1), ("reset", ">=", 1)])], []))


class Spaces(unittest.TestCase):
    def spaced(self, text, between, ahead, behind):
        lines = [ahead + line.replace(" ", between) + behind for line in text.split("\n")]
        return "\n".join(lines)

    def test_more_spaces(self):
        for text, rules in ((PENSION_TEXT, pension()), (ODD_TEXT, odd_names())):
            for between, ahead, behind in (
                ("  ", "", ""), (" ", " ", ""), (" ", "", " "), ("     ", "   ", "  "), (" " * 100, " " * 50, " "),
            ):
                read = parse_rules(self.spaced(text, between, ahead, behind))
                self.assertEqual(fields(read), fields(rules))

    def test_spaces_around_each_word(self):
        read = parse_rules("  facts   a b  \n count c    3 a  2\ngain  1   a   if c  >=   1  ")
        expected = Rules(["a", "b"], [("c", 3, {"a": 2})], [(1, "a", [("c", ">=", 1)])], [])
        self.assertEqual(fields(read), fields(expected))


if __name__ == "__main__":
    unittest.main()
