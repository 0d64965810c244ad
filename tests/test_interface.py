"""What the interface says of where its names stand, and of their arguments."""

import inspect
import unittest

from movedyears import (
    accounts, alike, carrying, conditions, errors, journal, longest, losses, machines, merging, moments, pairs, pumps,
    rules, runs, smallest, subsidies,
)

LISTED = {
    errors: {
        "MovedyearsError": None, "LineError": "(line)", "UnknownFact": "(fact)", "NoSuchYear": "(year)",
        "PowerCut": "(written)", "NoCarry": "(scheme, other)", "UnlikeFacts": "()", "Endless": "()",
        "TooManyStates": "()", "ShutError": "()",
    },
    conditions: {"passes": "(test, counts)", "holds": "(condition, counts)"},
    rules: {"Rules": "(facts, counters, gains, leaves)", "format_rules": "(rules)", "parse_rules": "(text)"},
    machines: {
        "Machine": "(facts, step, gain, leave)", "is_machine": "(machine)", "first_counts": "(rules)",
        "year_counts": "(rules, counts, fact)", "year_gain": "(rules, counts, fact)",
        "leave_gain": "(rules, counts)", "made": "(rules, more=())",
    },
    runs: {
        "states_along": "(machine, state, career)", "state_after": "(machine, state, career)",
        "gains_of": "(machine, state, career)", "total": "(machine, state, career)",
    },
    carrying: {
        "CarryRules": "(takes, costs)", "format_carry": "(carry_rules)", "parse_carry": "(text, rules, other)",
        "Carry": "(to, cost)", "carried_counts": "(carry_rules, counts, other)", "move_cost": "(carry_rules, counts)",
        "made_carry": "(rules, other, carry_rules)", "moved": "(machine, other, carry, career, year)",
        "loss": "(machine, other, carry, career, year)",
    },
    pairs: {
        "Pairs": "(machine, other, begins)", "first_careers": "(machine)", "left_from": "(machine)",
        "moved_pairs": "(machine, other, carry)",
    },
    longest: {"greatest_sums": "(pairs)", "lengths": "(pairs, values)"},
    losses: {
        "losses_from": "(machine, other, carry)", "greatest_loss": "(machine, other, carry)",
        "losing_career": "(machine, other, carry)", "bound_paper": "(machine, other, carry)",
        "verify_bound": "(machine, other, carry, bound, paper)", "endless_paper": "(machine, other, carry)",
        "verify_endless": "(machine, other, carry, paper)",
    },
    alike: {
        "are_alike": "(machine, other)", "telling_career": "(machine, other)", "alike_paper": "(machine, other)",
        "verify_alike": "(machine, other, paper)",
    },
    smallest: {"classes": "(machine)", "smallest": "(machine)"},
    subsidies: {
        "subsidies": "(machine, other, carry)", "flat_subsidy": "(machine, other, carry)",
        "subsidized": "(carry, sums)", "is_free": "(machine, other, carry)",
        "cheapest_takers": "(machine, other, carry)",
    },
    moments: {
        "best_year": "(machine, other, carry, career)", "guaranteed": "(machine, other, carry, years)",
        "expected": "(machine, other, carry, odds, years)", "mean_of": "(machine, other, carry, odds, years)",
        "worst_sums": "(machine, years)", "mean_sums": "(machine, odds, years)", "common_divisor": "(first, second)",
    },
    pumps: {
        "spots": "(schemes)", "pump": "(schemes, carries)", "pays": "(schemes, carries, spot, ring)",
        "pump_paper": "(schemes, carries)", "verify_no_pump": "(schemes, carries, paper)",
        "best_moves": "(schemes, carries, spot)",
    },
    merging: {
        "sum_of": "(machine, other)", "times": "(machine, number)", "better_of": "(machine, other, most)",
    },
    accounts: {"Account": "(schemes, carries)"},
    journal: {
        "record_of": "(deed)", "recovered": "(octets)", "Device": "(octets, power)",
        "JournaledAccount": "(account, device)", "opened": "(schemes, carries, octets, power)",
    },
}

METHODS = [
    (rules.Rules, "names", "(self)"), (machines.Machine, "many", "(self)"), (pairs.Pairs, "many", "(self)"),
    (accounts.Account, "scheme", "(self)"), (accounts.Account, "state", "(self)"),
    (accounts.Account, "paid", "(self)"), (accounts.Account, "worth", "(self)"),
    (accounts.Account, "year", "(self, fact)"), (accounts.Account, "move", "(self, other)"),
    (accounts.Account, "undo", "(self)"), (accounts.Account, "branch", "(self)"),
    (journal.Device, "append", "(self, octet)"), (journal.JournaledAccount, "perform", "(self, deed)"),
]


class Interface(unittest.TestCase):
    def test_each_name_is_defined_in_the_file_that_lists_it(self):
        for module, names in LISTED.items():
            for name in names:
                self.assertEqual(getattr(module, name).__module__, module.__name__)

    def test_each_has_the_arguments_that_are_listed(self):
        for module, names in LISTED.items():
            for name, arguments in names.items():
                if arguments is not None:
                    self.assertEqual(str(inspect.signature(getattr(module, name))), arguments, name)

    def test_each_method_is_defined_in_its_class(self):
        for kind, name, arguments in METHODS:
            self.assertIn(name, vars(kind))
            self.assertEqual(str(inspect.signature(getattr(kind, name))), arguments)


if __name__ == "__main__":
    unittest.main()
