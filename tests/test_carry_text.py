"""Carrying rules and their text, points [12], [14] and [8]."""

import copy
import unittest

from movedyears.carrying import CarryRules, format_carry, parse_carry
from movedyears.errors import LineError
from movedyears.rules import Rules, parse_rules
from wrong_words import WRONG_NAMES, WRONG_NUMBERS, wrong_amounts, wrong_conditions

# The first scheme has the counters c and d, the other one e, f and g; both have more facts than needed.
FIRST = parse_rules("facts a b\ncount c 5 a 1\ncount d 20 b 1")
OTHER = parse_rules("facts a b\ncount e 3 a 1\ncount f 20\ncount g 1")


def parts(carry_rules):
    """Return all that carrying rules tell."""
    return (carry_rules.takes, carry_rules.costs)


def full():
    """Return carrying rules with takes and costs of each kind."""
    takes = [("f", "c", 0), ("e", "d", 20), ("g", "c", 1)]
    costs = [(5, []), (-1000, [("c", ">=", 3)]), (0, [("d", "<", 20), ("c", ">=", 0), ("d", ">=", 7)])]
    return CarryRules(takes, costs)


FULL_TEXT = """take f c
take e d less 20
take g c less 1
cost 5
cost -1000 if c >= 3
cost 0 if d < 20 and c >= 0 and d >= 7"""


class Fields(unittest.TestCase):
    def test_fields(self):
        carry_rules = CarryRules([("e", "c", 2)], [(3, [])])
        self.assertEqual(carry_rules.takes, [("e", "c", 2)])
        self.assertEqual(carry_rules.costs, [(3, [])])

    def test_fields_by_the_names_of_the_interface(self):
        carry_rules = CarryRules(costs=[(3, [])], takes=[("e", "c", 2)])
        self.assertEqual(parts(carry_rules), ([("e", "c", 2)], [(3, [])]))

    def test_what_is_passed_in_is_neither_kept_nor_changed(self):
        takes, costs = [("e", "c", 2)], [(3, [])]
        carry_rules = CarryRules(takes, costs)
        takes.append(("f", "c", 0))
        costs.clear()
        self.assertEqual(parts(carry_rules), ([("e", "c", 2)], [(3, [])]))
        carry_rules.takes.clear()
        carry_rules.costs.append((4, []))
        self.assertEqual((takes, costs), ([("e", "c", 2), ("f", "c", 0)], []))


class Text(unittest.TestCase):
    def check(self, text, takes, costs):
        carry_rules = CarryRules(takes, costs)
        self.assertEqual(format_carry(carry_rules), text)
        self.assertEqual(parts(carry_rules), (takes, costs))
        read = parse_carry(text, FIRST, OTHER)
        self.assertIsInstance(read, CarryRules)
        self.assertEqual(parts(read), (takes, costs))

    def test_nothing(self):
        self.check("", [], [])

    def test_takes(self):
        self.check("take e c", [("e", "c", 0)], [])
        self.check("take e c less 1", [("e", "c", 1)], [])
        self.check("take g d less 20\ntake f d", [("g", "d", 20), ("f", "d", 0)], [])

    def test_costs(self):
        self.check("cost 0", [], [(0, [])])
        self.check("cost -7 if c < 5", [], [(-7, [("c", "<", 5)])])
        self.check("cost 1000\ncost -1000", [], [(1000, []), (-1000, [])])
        self.check("cost 5 if d >= 20 and c < 0", [], [(5, [("d", ">=", 20), ("c", "<", 0)])])

    def test_takes_and_costs(self):
        self.check(FULL_TEXT, full().takes, full().costs)

    def test_the_same_cost_twice(self):
        self.check("cost 5\ncost 5", [], [(5, []), (5, [])])

    def test_writing_changes_nothing(self):
        carry_rules = full()
        before = copy.deepcopy(parts(carry_rules))
        format_carry(carry_rules)
        self.assertEqual(parts(carry_rules), before)


class Reading(unittest.TestCase):
    def test_kinds_of_what_is_read(self):
        read = parse_carry(FULL_TEXT, FIRST, OTHER)
        for made in (*parts(read), read.costs[1][1]):
            self.assertIs(type(made), list)
        for made in (read.takes[0], read.takes[1], read.costs[0], read.costs[1][1][0]):
            self.assertIs(type(made), tuple)

    def test_reading_is_new_each_time(self):
        first, second = parse_carry(FULL_TEXT, FIRST, OTHER), parse_carry(FULL_TEXT, FIRST, OTHER)
        first.takes.clear()
        first.costs[1][1].clear()
        first.costs.pop()
        self.assertEqual(parts(second), parts(full()))

    def test_reading_does_not_change_the_rules(self):
        first, other = copy.deepcopy(FIRST), copy.deepcopy(OTHER)
        parse_carry(FULL_TEXT, first, other)
        self.assertEqual(vars(first), vars(FIRST))
        self.assertEqual(vars(other), vars(OTHER))

    def test_more_spaces(self):
        text = FULL_TEXT.replace(" ", "   ").replace("\n", "  \n ")
        self.assertEqual(parts(parse_carry("  " + text + " ", FIRST, OTHER)), parts(full()))

    def test_names_that_are_words_of_the_text(self):
        first = Rules(["a"], [("less", 3, {}), ("if", 3, {}), ("take", 3, {})], [], [])
        other = Rules(["a"], [("take", 3, {}), ("less", 3, {}), ("cost", 3, {})], [], [])
        text = "take take less\ntake less less less 3\ntake cost if less 20\n"
        text += "cost 5 if if < 3 and less >= 1 and take < 2"
        takes = [("take", "less", 0), ("less", "less", 3), ("cost", "if", 20)]
        costs = [(5, [("if", "<", 3), ("less", ">=", 1), ("take", "<", 2)])]
        read = parse_carry(text, first, other)
        self.assertEqual(parts(read), (takes, costs))
        self.assertEqual(format_carry(read), text)

    def test_counters_with_the_same_names(self):
        read = parse_carry("take d c\ntake c c less 2\ncost 1 if d < 2", FIRST, FIRST)
        self.assertEqual(parts(read), ([("d", "c", 0), ("c", "c", 2)], [(1, [("d", "<", 2)])]))

    def test_numbers_behind_less(self):
        for number in range(1, 21):
            read = parse_carry(f"take e c less {number}", FIRST, OTHER)
            self.assertEqual(read.takes, [("e", "c", number)])

    def test_twenty_costs(self):
        text = "\n".join(["take e c", "take f c", "take g c"] + ["cost 1"] * 20)
        self.assertEqual(len(parse_carry(text, FIRST, OTHER).costs), 20)

    def test_schemes_without_counters(self):
        plain = parse_rules("facts a")
        self.assertEqual(parts(parse_carry("", plain, plain)), ([], []))
        self.assertEqual(parts(parse_carry("cost 3", plain, plain)), ([], [(3, [])]))

    def test_no_error_somewhat_beyond_the_limits(self):
        carry_rules = CarryRules([("e", "c", 25)], [(5000, [("c", ">=", 30)])] * 25)
        lines = format_carry(carry_rules).split("\n")
        self.assertEqual(lines, ["take e c less 25"] + ["cost 5000 if c >= 30"] * 25)


def wrong_everywhere():
    """Return lines that are wrong wherever they stand."""
    lines = ["", " ", "     ", "\t", "\r", "a", "e", "1", "-", "# a", "if c < 1", "less 1", "e c", "e c less 1", "5"]
    lines += ["facts a b", "count c 5", "gain 1 a", "leave 1", "Take e c", "takes e c", "TAKE e c", "Cost 1", "costs 1"]
    return lines + ["take", "cost", "\ttake f c", "take\tf c", "\u00a0cost 1", "cost\t1"]


def wrong_takes():
    """Return wrong lines of takes, behind a take of e."""
    lines = ["take f", "take c", "take f 1", "take 1 f", "take f less 1", "take f c c", "take f c 1", "take c f"]
    lines += ["take c c", "take f e", "take f f", "take f a", "take a c", "take f x", "take x c", "take F c"]
    lines += ["take f C", "take e c", "take e d", "take e c less 1", "take f c f d", "take f c if c < 1"]
    lines += ["take " + name + " c" for name in WRONG_NAMES] + ["take f " + name for name in WRONG_NAMES]
    lines += ["take f c less", "take f c less c", "take f c less 1 1", "take f c less 1 if c < 1", "take f c Less 1"]
    lines += ["take f c less less 1", "take f c less 1 less 1", "take f c minus 1", "take f c -1", "take less 1 f c"]
    lines += ["take f c less " + number for number in WRONG_NUMBERS]
    lines += ["take f c less " + number for number in ("0", "21", "22", "100", "1000", "-1", "-20")]
    return lines


def wrong_costs():
    """Return wrong lines of costs."""
    lines = ["cost a", "cost c", "cost 1 a", "cost 1 c", "cost 1 1", "cost if c < 1", "cost a 1", "cost 1 less 1"]
    lines += ["cost " + amount for amount in wrong_amounts()]
    lines += ["cost 1 " + end for end in wrong_conditions()]
    return lines + ["cost 1 if e < 1", "cost 1 if f >= 1", "cost 1 if c < 1 and g < 1"]


class WrongLines(unittest.TestCase):
    def check(self, line, *lines):
        text = "\n".join(lines)
        with self.subTest(text=text):
            with self.assertRaises(LineError) as caught:
                parse_carry(text, FIRST, OTHER)
            self.assertEqual(caught.exception.line, line)

    def test_the_only_line(self):
        # The empty text has no line; that is why it is not among these.
        for line in wrong_everywhere()[1:] + wrong_costs():
            self.check(1, line)
        for line in wrong_takes():
            if not line.startswith("take e"):
                self.check(1, line)

    def test_the_first_line(self):
        for line in wrong_everywhere() + wrong_costs():
            self.check(1, line, "cost 5")
        for line in wrong_takes():
            if not line.startswith("take e"):
                self.check(1, line, "take g d", "cost 5")

    def test_a_middle_line(self):
        for line in wrong_everywhere() + wrong_takes() + wrong_costs():
            self.check(2, "take e c", line, "take g d less 2")
            self.check(3, "take e c", "take g d", line, "cost 5", "cost 6")
        for line in wrong_everywhere() + wrong_costs():
            self.check(3, "take e c", "cost 1", line, "cost 5")

    def test_the_last_line(self):
        for line in wrong_everywhere() + wrong_takes() + wrong_costs():
            self.check(3, "take e c", "take g d", line)
        for line in wrong_everywhere() + wrong_costs():
            self.check(4, "take e c", "cost 1", "cost 2 if c < 1", line)

    def test_the_first_of_several_is_told(self):
        self.check(1, "", "")
        self.check(1, "x", "take e c", "y")
        self.check(2, "take e c", "take e c", "take e c")
        self.check(2, "take e c", "cost x", "take e c")
        self.check(3, "take e c", "cost 1", "take f c", "cost x", "")
        self.check(3, "cost 1", "cost 2", "take x c", "take y c")

    def test_a_take_behind_a_cost(self):
        self.check(2, "cost 1", "take e c")
        self.check(4, "take e c", "take f c", "cost 1", "take g c", "cost 1")

    def test_a_counter_that_is_taken_twice(self):
        self.check(2, "take e c", "take e c")
        self.check(2, "take e c", "take e d")
        self.check(4, "take e c", "take f c", "take g c", "take f d", "cost 1")

    def test_more_than_twenty_costs(self):
        self.check(21, *["cost 1"] * 21)
        self.check(22, "take e c", *["cost 1 if c < 2"] * 23)
        self.check(22, "take e c", *["cost 1"] * 20, "x", "y")

    def test_spaces_and_empty_lines(self):
        self.check(1, " ")
        self.check(1, "\n")
        self.check(2, "take e c", "")
        self.check(2, "cost 1", "  ")
        self.check(3, FULL_TEXT.split("\n")[0], "take e d", "", "cost 1")

    def test_schemes_without_counters(self):
        plain = parse_rules("facts a")
        for rules, other in ((plain, OTHER), (FIRST, plain), (plain, plain)):
            with self.assertRaises(LineError) as caught:
                parse_carry("take e c", rules, other)
            self.assertEqual(caught.exception.line, 1)


if __name__ == "__main__":
    unittest.main()
