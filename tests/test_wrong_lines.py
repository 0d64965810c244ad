"""Reading a text of rules with wrong lines, point [8]."""

import unittest

from movedyears.errors import LineError
from movedyears.rules import parse_rules
from wrong_words import WRONG_NAMES, WRONG_NUMBERS, wrong_amounts, wrong_conditions

# A right text with a line of each kind, and a middle and a last line to put wrong ones in place of.
HEAD = "facts a b\ncount c 5 a 1 b reset\ncount d 20 b 5"
TAIL = "gain 1 a\ngain 2 b if c >= 1\nleave 3\nleave 4 if d < 2"


def wrong_facts():
    """Return lines that can't be the first one."""
    lines = ["", " ", "   ", "facts", " facts ", "Facts a", "FACTS a", "fact a", "factss a", "a", "facts\ta"]
    lines += ["facts a a", "facts a b a", "facts a b c d e a", "facts a b c d e f g", "facts,a", "\tfacts a"]
    lines += ["facts " + name for name in WRONG_NAMES]
    lines += ["facts a " + name + " b" for name in WRONG_NAMES]
    lines += ["count c 5", "gain 1 a", "leave 1", "\u00a0facts a", "\ufefffacts a", "facts a 1", "facts -"]
    return lines


def wrong_everywhere():
    """Return lines that are wrong wherever they stand behind the first one."""
    lines = ["", " ", "     ", "\t", "\r", "a", "1", "facts", "facts a", "facts a b", "facts c", "# a", "-", "if c < 1"]
    lines += ["Count c 5", "counts e 5", "Gain 1 a", "gains 1 a", "Leave 1", "leaves 1", "LEAVE 1"]
    lines += ["cost 1", "take c d"]
    return lines


def wrong_counters():
    """Return wrong lines of counters."""
    lines = ["count", "count e", "count 5", "count e f", "count e a 1", "count e -5", "count e a", "count 5 e"]
    lines += ["count c 5", "count d 5 a 1", "count e 0", "count e 21", "count e 100", "count e 9999", "count e reset"]
    lines += ["count " + name + " 5" for name in WRONG_NAMES]
    lines += ["count e " + number for number in WRONG_NUMBERS]
    lines += ["count e 5 a " + number for number in WRONG_NUMBERS]
    lines += ["count e 5 a " + step for step in ("0", "6", "20", "-1", "-5", "Reset", "resets", "reset reset")]
    lines += ["count e 5 " + steps for steps in (
        "a", "a b", "x 1", "A 1", "a 1 b", "b 1 a 1", "b reset a reset", "a 1 a 1", "a 1 a 2", "a 1 b 1 a 1",
        "a 1 1", "1", "1 a", "reset", "a 1 x 1", "a=1", "a1", "a 1 b 1 c 1", "c 1", "a 1, b 1", "a 1\tb 1",
    )]
    lines += ["count e 20 a 21", "count e 1 a 2", "count e 20 a 20 b 21", "count e 5 if c < 1"]
    return lines


def wrong_gains():
    """Return wrong lines of gains."""
    lines = ["gain", "gain 1", "gain a", "gain a 1", "gain 1 if c < 1", "gain 1 c", "gain 1 a a"]
    lines += ["gain 1 a b", "gain 1 a 1"]
    lines += ["gain " + amount + " a" for amount in wrong_amounts()]
    lines += ["gain 1 " + name for name in WRONG_NAMES + ["x", "aa", "ab", "reset", "if"]]
    lines += ["gain 1 a " + end for end in wrong_conditions()]
    return lines


def wrong_leaves():
    """Return wrong lines of leaves."""
    lines = ["leave", "leave a", "leave a 1", "leave 1 a", "leave 1 a if c < 1", "leave if c < 1", "leave 1 1"]
    lines += ["leave " + amount for amount in wrong_amounts()]
    lines += ["leave 1 " + end for end in wrong_conditions()]
    return lines


class Case(unittest.TestCase):
    def told(self, text):
        with self.assertRaises(LineError) as caught:
            parse_rules(text)
        return caught.exception.line

    def check(self, line, *parts):
        text = "\n".join(parts)
        with self.subTest(text=text):
            self.assertEqual(self.told(text), line)


class WrongLines(Case):
    def test_the_text_that_is_made_wrong_is_right(self):
        rules = parse_rules(HEAD + "\n" + TAIL)
        self.assertEqual([len(rules.counters), len(rules.gains), len(rules.leaves)], [2, 2, 2])

    def test_the_empty_text(self):
        self.assertEqual(self.told(""), 1)

    def test_the_first_line(self):
        for line in wrong_facts():
            self.check(1, line)
            self.check(1, line, "leave 1")
            self.check(1, line, "count c 5", TAIL)

    def test_the_second_line(self):
        for line in wrong_everywhere():
            self.check(2, "facts a b", line)
            self.check(2, "facts a b", line, "leave 1")

    def test_a_middle_line(self):
        for line in wrong_everywhere() + wrong_counters() + wrong_gains() + wrong_leaves():
            self.check(4, HEAD, line, TAIL)

    def test_the_last_line(self):
        for line in wrong_everywhere() + wrong_counters():
            self.check(4, HEAD, line)
        for line in wrong_everywhere() + wrong_gains():
            self.check(6, HEAD, "gain 1 a\ngain 2 b if c >= 1", line)
        for line in wrong_everywhere() + wrong_gains() + wrong_leaves():
            self.check(8, HEAD, TAIL, line)

    def test_the_first_of_several_is_told(self):
        self.check(1, "", "", "")
        self.check(2, "facts a", "gain 1 b", "gain 1 c", "leave x")
        self.check(3, "facts a", "gain 1 a", "count c 1", "leave x", "facts b")
        self.check(3, "facts a", "leave 1", "gain 1 a", "count c 1", "")
        self.check(2, "facts a", "count c 0", "gain 1 a if c < 1")
        self.check(3, "facts a", "count c 1", "count c 1", "", "gain 1 a if d < 1")
        self.check(4, HEAD, "count e 0", "count f 0", TAIL, "x")

    def test_an_empty_line_at_the_end(self):
        self.check(2, "facts a", "")
        self.check(2, "facts a", "  ")
        self.check(8, HEAD, TAIL, "")

    def test_other_ends_of_lines(self):
        self.check(1, "facts a\r", "leave 1")
        self.check(2, "facts a", "leave 1\r")
        self.check(1, "facts a\rleave 1")
        self.check(1, "facts a\x0cleave 1")
        self.check(1, "facts a\x85leave 1")


class Order(Case):
    def test_a_counter_behind_a_gain_or_leave(self):
        self.check(3, "facts a", "gain 1 a", "count c 5")
        self.check(3, "facts a", "leave 1", "count c 5 a 1", "leave 1")
        self.check(5, "facts a", "count c 5", "gain 1 a", "leave 1", "count d 5")

    def test_a_gain_behind_a_leave(self):
        self.check(3, "facts a", "leave 1", "gain 1 a")
        self.check(5, "facts a", "count c 5", "gain 1 a", "leave 1", "gain 1 a", "leave 1")

    def test_facts_elsewhere(self):
        self.check(1, "leave 1", "facts a")
        self.check(2, "facts a", "facts a")
        self.check(9, HEAD, TAIL, "leave 1", "facts c")

    def test_names_of_later_lines(self):
        self.check(2, "facts a", "gain 1 a if c < 1", "count c 5")
        self.check(3, "facts a", "count c 5", "leave 1 if d < 1", "leave 1 if c < 1")


class TooMany(Case):
    def test_facts(self):
        self.assertEqual(parse_rules("facts a b c d e f").facts, list("abcdef"))
        self.check(1, "facts a b c d e f g")

    def test_counters(self):
        three = ["facts a", "count c 5", "count d 5", "count e 5"]
        self.assertEqual(parse_rules("\n".join(three)).names(), ["c", "d", "e"])
        self.check(5, *three, "count f 5")
        self.check(5, *three, "count f 5", "gain 1 a")
        self.check(5, *three, "count f 5", "count g 5", "x")

    def test_gains(self):
        twenty = ["facts a"] + ["gain 1 a"] * 20
        self.assertEqual(len(parse_rules("\n".join(twenty)).gains), 20)
        self.check(22, *twenty, "gain 1 a")
        self.check(22, *twenty, "gain 1 a", "gain 1 a", "leave 1")

    def test_leaves(self):
        twenty = ["facts a"] + ["leave 1"] * 20
        self.assertEqual(len(parse_rules("\n".join(twenty)).leaves), 20)
        self.check(22, *twenty, "leave 1")
        self.check(22, *twenty, "leave 1", "leave 1")

    def test_gains_and_leaves_are_counted_each_for_themselves(self):
        rules = parse_rules("\n".join(["facts a"] + ["gain 1 a"] * 20 + ["leave 1"] * 20))
        self.assertEqual([len(rules.gains), len(rules.leaves)], [20, 20])


class Limits(Case):
    def test_names(self):
        self.assertEqual(parse_rules("facts abcdefgh z").facts, ["abcdefgh", "z"])
        self.check(1, "facts abcdefghi z")
        self.assertEqual(parse_rules("facts a\ncount zyxwvuts 1").names(), ["zyxwvuts"])
        self.check(2, "facts a", "count zyxwvutsr 1")

    def test_caps(self):
        for cap in range(1, 21):
            self.assertEqual(parse_rules(f"facts a\ncount c {cap}").counters, [("c", cap, {})])
        for cap in (-1, 0, 21, 22, 200):
            self.check(2, "facts a", f"count c {cap}")

    def test_steps(self):
        for cap in range(1, 21):
            for step in range(1, cap + 1):
                rules = parse_rules(f"facts a\ncount c {cap} a {step}")
                self.assertEqual(rules.counters, [("c", cap, {"a": step})])
            for step in (-1, 0, cap + 1):
                self.check(2, "facts a", f"count c {cap} a {step}")

    def test_amounts(self):
        for amount in (-1000, -999, -100, -10, -1, 0, 1, 9, 10, 100, 999, 1000):
            rules = parse_rules(f"facts a\ngain {amount} a\nleave {amount}")
            self.assertEqual(rules.gains, [(amount, "a", [])])
            self.assertEqual(rules.leaves, [(amount, [])])
        for amount in (-1002, -1001, 1001, 1002):
            self.check(2, "facts a", f"gain {amount} a")
            self.check(2, "facts a", f"leave {amount}")

    def test_numbers_of_tests(self):
        for number in range(21):
            rules = parse_rules(f"facts a\ncount c 5\nleave 1 if c >= {number} and c < {number}")
            self.assertEqual(rules.leaves, [(1, [("c", ">=", number), ("c", "<", number)])])
        for number in (-1, 21, 22):
            self.check(3, "facts a", "count c 5", f"leave 1 if c >= {number}")
            self.check(3, "facts a", "count c 5", f"leave 1 if c < {number}")


if __name__ == "__main__":
    unittest.main()
