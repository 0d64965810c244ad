"""What the interface says of where its names stand, and of their arguments."""

import inspect
import unittest

from movedyears import (
    alike, carrying, conditions, errors, longest, losses, machines, moments, pairs, rules, runs, smallest, subsidies,
)

LISTED = {
    errors: {
        "MovedyearsError": None, "LineError": "(line)", "UnknownFact": "(fact)", "NoSuchYear": "(year)",
        "PowerCut": "(written)", "NoCarry": "(scheme, other)", "UnlikeFacts": "()", "Endless": "()",
        "TooManyStates": "()", "ShutError": "()",
    },
    conditions: {"passes": "(test, counts)", "holds": "(condition, counts)"},
    rules: {"Rules": "(facts, counters, gains, leaves)", "format_rules": "(rules)", "parse_rules": "(text)"},
    machines: {
        "Machine": "(facts, step, gain, leave)", "is_machine": "(machine)", "first_counts": "(rules)",
        "year_counts": "(rules, counts, fact)", "year_gain": "(rules, counts, fact)",
        "leave_gain": "(rules, counts)", "made": "(rules, more=())",
    },
    runs: {
        "states_along": "(machine, state, career)", "state_after": "(machine, state, career)",
        "gains_of": "(machine, state, career)", "total": "(machine, state, career)",
    },
    carrying: {
        "CarryRules": "(takes, costs)", "format_carry": "(carry_rules)", "parse_carry": "(text, rules, other)",
        "Carry": "(to, cost)", "carried_counts": "(carry_rules, counts, other)", "move_cost": "(carry_rules, counts)",
        "made_carry": "(rules, other, carry_rules)", "moved": "(machine, other, carry, career, year)",
        "loss": "(machine, other, carry, career, year)",
    },
    pairs: {
        "Pairs": "(machine, other, begins)", "first_careers": "(machine)", "left_from": "(machine)",
        "moved_pairs": "(machine, other, carry)",
    },
    longest: {"greatest_sums": "(pairs)", "lengths": "(pairs, values)"},
    losses: {
        "losses_from": "(machine, other, carry)", "greatest_loss": "(machine, other, carry)",
        "losing_career": "(machine, other, carry)", "bound_paper": "(machine, other, carry)",
        "verify_bound": "(machine, other, carry, bound, paper)", "endless_paper": "(machine, other, carry)",
        "verify_endless": "(machine, other, carry, paper)",
    },
    alike: {
        "are_alike": "(machine, other)", "telling_career": "(machine, other)", "alike_paper": "(machine, other)",
        "verify_alike": "(machine, other, paper)",
    },
    smallest: {"classes": "(machine)", "smallest": "(machine)"},
    subsidies: {
        "subsidies": "(machine, other, carry)", "flat_subsidy": "(machine, other, carry)",
        "subsidized": "(carry, sums)", "is_free": "(machine, other, carry)",
        "cheapest_takers": "(machine, other, carry)",
    },
    moments: {
        "best_year": "(machine, other, carry, career)", "guaranteed": "(machine, other, carry, years)",
        "expected": "(machine, other, carry, odds, years)", "mean_of": "(machine, other, carry, odds, years)",
        "worst_sums": "(machine, years)", "mean_sums": "(machine, odds, years)", "common_divisor": "(first, second)",
    },
}

METHODS = [(rules.Rules, "names"), (machines.Machine, "many"), (pairs.Pairs, "many")]


class Interface(unittest.TestCase):
    def test_each_name_is_defined_in_the_file_that_lists_it(self):
        for module, names in LISTED.items():
            for name in names:
                self.assertEqual(getattr(module, name).__module__, module.__name__)

    def test_each_has_the_arguments_that_are_listed(self):
        for module, names in LISTED.items():
            for name, arguments in names.items():
                if arguments is not None:
                    self.assertEqual(str(inspect.signature(getattr(module, name))), arguments, name)

    def test_each_method_is_defined_in_its_class(self):
        for kind, name in METHODS:
            self.assertIn(name, vars(kind))
            self.assertEqual(str(inspect.signature(getattr(kind, name))), "(self)")


if __name__ == "__main__":
    unittest.main()
