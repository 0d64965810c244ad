"""Tests and conditions, point [4]."""

import unittest

from movedyears.conditions import holds, passes


class Tests(unittest.TestCase):
    def test_at_least(self):
        for number in (1, 2, 10, 19, 20):
            self.assertIs(passes(("c", ">=", number), {"c": number - 1}), False)
            self.assertIs(passes(("c", ">=", number), {"c": number}), True)
            self.assertIs(passes(("c", ">=", number), {"c": number + 1}), True)

    def test_below(self):
        for number in (1, 2, 10, 19, 20):
            self.assertIs(passes(("c", "<", number), {"c": number - 1}), True)
            self.assertIs(passes(("c", "<", number), {"c": number}), False)
            self.assertIs(passes(("c", "<", number), {"c": number + 1}), False)

    def test_zero(self):
        self.assertIs(passes(("c", ">=", 0), {"c": 0}), True)
        self.assertIs(passes(("c", "<", 0), {"c": 0}), False)
        self.assertIs(passes(("c", ">=", 0), {"c": 1}), True)
        self.assertIs(passes(("c", "<", 0), {"c": 1}), False)

    def test_a_number_above_every_cap(self):
        self.assertIs(passes(("c", ">=", 21), {"c": 20}), False)
        self.assertIs(passes(("c", "<", 21), {"c": 20}), True)

    def test_the_counter_that_is_named(self):
        counts = {"low": 0, "and": 5, "high": 9}
        self.assertIs(passes(("and", ">=", 5), counts), True)
        self.assertIs(passes(("low", ">=", 5), counts), False)
        self.assertIs(passes(("high", "<", 5), counts), False)


class Conditions(unittest.TestCase):
    def test_without_tests(self):
        self.assertIs(holds([], {}), True)
        self.assertIs(holds([], {"c": 3}), True)

    def test_one_test(self):
        self.assertIs(holds([("c", ">=", 3)], {"c": 3}), True)
        self.assertIs(holds([("c", ">=", 3)], {"c": 2}), False)
        self.assertIs(holds([("c", "<", 3)], {"c": 2}), True)
        self.assertIs(holds([("c", "<", 3)], {"c": 3}), False)

    def test_all_of_several_have_to_hold(self):
        condition = [("a", ">=", 2), ("b", "<", 4), ("a", "<", 6)]
        for a in range(9):
            for b in range(9):
                self.assertIs(holds(condition, {"a": a, "b": b}), 2 <= a < 6 and b < 4)

    def test_the_same_test_twice(self):
        self.assertIs(holds([("c", ">=", 3), ("c", ">=", 3)], {"c": 3}), True)

    def test_tests_that_exclude_each_other(self):
        for value in range(5):
            self.assertIs(holds([("c", ">=", 2), ("c", "<", 2)], {"c": value}), False)

    def test_nothing_is_changed(self):
        condition = [("a", ">=", 2), ("b", "<", 4)]
        counts = {"a": 1, "b": 3}
        holds(condition, counts)
        passes(condition[0], counts)
        self.assertEqual(condition, [("a", ">=", 2), ("b", "<", 4)])
        self.assertEqual(counts, {"a": 1, "b": 3})


if __name__ == "__main__":
    unittest.main()
