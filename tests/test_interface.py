"""What the interface says of where its names stand."""

import unittest

from movedyears import conditions, errors, rules

LISTED = {
    errors: [
        "MovedyearsError", "LineError", "UnknownFact", "NoSuchYear", "PowerCut", "NoCarry",
        "UnlikeFacts", "Endless", "TooManyStates", "ShutError",
    ],
    conditions: ["passes", "holds"],
    rules: ["Rules", "format_rules", "parse_rules"],
}


class Interface(unittest.TestCase):
    def test_each_name_is_defined_in_the_file_that_lists_it(self):
        for module, names in LISTED.items():
            for name in names:
                self.assertEqual(getattr(module, name).__module__, module.__name__)

    def test_each_method_is_defined_in_its_class(self):
        self.assertIn("names", vars(rules.Rules))


if __name__ == "__main__":
    unittest.main()
