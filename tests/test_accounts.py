"""Accounts of members, point [32]."""

import copy
import random
import unittest

from movedyears.accounts import Account
from movedyears.carrying import Carry, made_carry, moved, parse_carry
from movedyears.errors import NoCarry, UnknownFact
from movedyears.rules import parse_rules
from movedyears.runs import total
from samples import machine_of, random_carry, random_machine, shown


def sample():
    """Return three schemes with some carries between them."""
    schemes = [
        machine_of(["a", "b"], [([1, 0], [10, -3], 100), ([1, 0], [20, 0], 200)]),
        machine_of(["a", "b"], [([0, 1], [1, 2], 5), ([2, 1], [3, 4], 6), ([2, 2], [5, 6], 7)]),
        machine_of(["a", "b"], [([0, 0], [0, 0], -1)]),
    ]
    there, back, away = Carry([2, 1], [7, -8]), Carry([0, 1, 1], [0, 50, 60]), Carry([0] * 3, [1] * 3)
    return schemes, {(0, 1): there, (1, 0): back, (1, 2): away}


def told(account):
    """Return all that an account tells."""
    return (account.scheme(), account.state(), account.paid(), account.worth(), list(account.deeds))


def random_deed(rng, account):
    """Do some deed, now and then one that there is not."""
    kind = rng.random()
    try:
        if kind < 0.5:
            account.year(rng.choice(["a", "b", "c"] if kind < 0.1 else ["a", "b"]))
        elif kind < 0.8:
            account.move(rng.randrange(3))
        else:
            account.undo()
    except (NoCarry, UnknownFact):
        pass


class Beginning(unittest.TestCase):
    def test_scheme_0_at_state_0_with_nothing_paid(self):
        account = Account(*sample())
        self.assertEqual(told(account), (0, 0, 0, 100, []))
        self.assertIs(type(account.deeds), list)

    def test_accounts_have_their_own_deeds(self):
        schemes, carries = sample()
        first, second = Account(schemes, carries), Account(schemes, carries)
        first.year("a")
        self.assertEqual(told(second), (0, 0, 0, 100, []))


class Deeds(unittest.TestCase):
    def test_years(self):
        account = Account(*sample())
        self.assertEqual(account.year("a"), 10)
        self.assertEqual(told(account), (0, 1, 10, 210, [("year", "a")]))
        self.assertEqual(account.year("a"), 20)
        self.assertEqual(told(account), (0, 1, 30, 230, [("year", "a")] * 2))
        self.assertEqual(account.year("b"), 0)
        self.assertEqual(account.year("b"), -3)
        self.assertEqual(told(account)[:4], (0, 0, 27, 127))
        self.assertEqual(account.deeds, [("year", "a"), ("year", "a"), ("year", "b"), ("year", "b")])

    def test_moves(self):
        account = Account(*sample())
        self.assertEqual(account.move(1), 7)
        self.assertEqual(told(account), (1, 2, -7, 0, [("move", 1)]))
        self.assertEqual(account.year("b"), 6)
        self.assertEqual(account.move(0), 60)
        self.assertEqual(told(account), (0, 1, -61, 139, [("move", 1), ("year", "b"), ("move", 0)]))
        # A cost below 0 is paid out.
        self.assertEqual(account.move(1), -8)
        self.assertEqual(told(account)[:4], (1, 1, -53, -47))
        self.assertEqual(account.move(2), 1)
        self.assertEqual(account.year("a"), 0)
        self.assertEqual(told(account)[:4], (2, 0, -54, -55))

    def test_undoing_down_to_the_beginning_and_once_more(self):
        account = Account(*sample())
        steps = [told(account)]
        for deed in (("year", "a"), ("move", 1), ("year", "b"), ("year", "a"), ("move", 2), ("year", "b")):
            account.year(deed[1]) if deed[0] == "year" else account.move(deed[1])
            steps.append(told(account))
        for step in steps[-2::-1]:
            self.assertIs(account.undo(), True)
            self.assertEqual(told(account), step)
        for _ in range(3):
            self.assertIs(account.undo(), False)
            self.assertEqual(told(account), (0, 0, 0, 100, []))
        self.assertEqual(account.year("a"), 10)
        self.assertEqual(told(account), (0, 1, 10, 210, [("year", "a")]))

    def test_undone_deeds_are_left_out(self):
        account = Account(*sample())
        account.year("a")
        account.year("b")
        account.undo()
        account.move(1)
        account.move(0)
        account.undo()
        account.year("a")
        self.assertEqual(told(account), (1, 2, 10 + 8 + 3, 28, [("year", "a"), ("move", 1), ("year", "a")]))


class Wrong(unittest.TestCase):
    def check(self, account, error, fields, function, argument):
        before = told(account)
        with self.assertRaises(error) as caught:
            function(argument)
        self.assertEqual(vars(caught.exception), fields)
        self.assertEqual(told(account), before)

    def test_unknown_facts(self):
        account = Account(*sample())
        for fact in ("c", "A", ""):
            self.check(account, UnknownFact, {"fact": fact}, account.year, fact)
        account.year("a")
        account.move(1)
        self.check(account, UnknownFact, {"fact": "c"}, account.year, "c")
        self.assertIs(account.undo(), True)
        self.assertEqual(told(account), (0, 1, 10, 210, [("year", "a")]))

    def test_carries_that_there_are_not(self):
        account = Account(*sample())
        for other in (2, 0, 3, -1):
            self.check(account, NoCarry, {"scheme": 0, "other": other}, account.move, other)
        account.year("a")
        account.move(1)
        self.check(account, NoCarry, {"scheme": 1, "other": 1}, account.move, 1)
        account.move(2)
        for other in (0, 1, 2):
            self.check(account, NoCarry, {"scheme": 2, "other": other}, account.move, other)
        self.assertIs(account.undo(), True)
        self.assertEqual(told(account), (1, 1, 18, 24, [("year", "a"), ("move", 1)]))

    def test_one_scheme(self):
        account = Account(sample()[0][:1], {})
        self.check(account, NoCarry, {"scheme": 0, "other": 1}, account.move, 1)
        self.assertEqual(account.year("b"), -3)


class Worth(unittest.TestCase):
    def test_it_is_what_the_runs_tell(self):
        rng = random.Random(111)
        for _ in range(60):
            machine, other = random_machine(rng, ["a", "b"], 3, 9), random_machine(rng, ["a", "b"], 2, 9)
            carry = random_carry(rng, machine, other, 9)
            career = [rng.choice("ab") for _ in range(rng.randint(0, 6))]
            year = rng.randint(0, len(career))
            account = Account([machine, other], {(0, 1): carry})
            for at, fact in enumerate(career):
                if at == year:
                    account.move(1)
                account.year(fact)
            if year == len(career):
                self.assertEqual(account.worth(), total(machine, 0, career))
                account.move(1)
            self.assertEqual(account.worth(), moved(machine, other, carry, career, year))

    def test_machines_of_rules(self):
        rules = parse_rules("facts work pause\ncount years 20 work 1 pause reset\ngain 100 work if years >= 2\nleave 9")
        other = parse_rules("facts work pause\ncount points 9 work 2\ngain 90 work if points >= 2")
        carry_rules = parse_carry("take points years\ncost 10 if years < 5", rules, other)
        machine, second, carry = made_carry(rules, other, carry_rules)
        account = Account([machine, second], {(0, 1): carry})
        self.assertEqual([account.year("work") for _ in range(3)], [0, 0, 100])
        self.assertEqual((account.paid(), account.worth()), (100, 109))
        self.assertEqual(account.move(1), 10)
        self.assertEqual(account.year("work"), 90)
        self.assertEqual((account.paid(), account.worth()), (180, 180))


class Branches(unittest.TestCase):
    def test_the_same_deeds(self):
        account = Account(*sample())
        account.year("a")
        account.move(1)
        branch = account.branch()
        self.assertIs(type(branch), Account)
        self.assertEqual(told(branch), told(account))
        self.assertIsNot(branch.deeds, account.deeds)
        self.assertEqual(told(Account(*sample()).branch()), (0, 0, 0, 100, []))

    def test_they_go_on_of_their_own_on_either_side(self):
        account = Account(*sample())
        account.year("a")
        branch = account.branch()
        self.assertEqual(branch.year("a"), 20)
        self.assertEqual(told(account), (0, 1, 10, 210, [("year", "a")]))
        self.assertEqual(account.move(1), -8)
        self.assertEqual(told(branch), (0, 1, 30, 230, [("year", "a")] * 2))
        self.assertEqual([branch.undo(), branch.undo(), branch.undo()], [True, True, False])
        self.assertEqual(told(account), (1, 1, 18, 24, [("year", "a"), ("move", 1)]))
        self.assertEqual([account.undo(), account.undo(), account.undo()], [True, True, False])
        self.assertEqual(told(branch), told(account))

    def test_a_branch_can_be_undone_to_the_beginning(self):
        account = Account(*sample())
        steps = [told(account)]
        for fact in ("a", "b", "b", "a"):
            account.year(fact)
            steps.append(told(account))
        branch = account.branch().branch()
        for step in steps[-2::-1]:
            self.assertIs(branch.undo(), True)
            self.assertEqual(told(branch), step)
        self.assertIs(branch.undo(), False)
        self.assertEqual(told(account), steps[-1])

    def test_random_deeds(self):
        rng = random.Random(112)
        for _ in range(40):
            account = Account(*sample())
            for _ in range(rng.randint(0, 8)):
                random_deed(rng, account)
            branch = account.branch()
            for changed, kept in ((account, branch), (branch, account)):
                before = told(kept)
                for _ in range(6):
                    random_deed(rng, changed)
                self.assertEqual(told(kept), before)
            # The deeds that stand lead to where the account is.
            for one in (account, branch):
                again = Account(*sample())
                for kind, what in one.deeds:
                    again.year(what) if kind == "year" else again.move(what)
                self.assertEqual(told(again), told(one))


class Unchanged(unittest.TestCase):
    def test_what_is_passed_in_is_not_changed(self):
        schemes, carries = sample()
        before = copy.deepcopy(self.held(schemes, carries))
        rng = random.Random(113)
        account = Account(schemes, carries)
        for _ in range(50):
            random_deed(rng, account)
            random_deed(rng, account.branch())
        self.assertEqual(self.held(schemes, carries), before)

    def held(self, schemes, carries):
        return [shown(machine) for machine in schemes], [(key, one.to, one.cost) for key, one in carries.items()]


if __name__ == "__main__":
    unittest.main()
