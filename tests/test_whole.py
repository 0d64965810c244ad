"""What the document promises over the whole program: [1], [2] and what the interface says ahead of its sections."""

import copy
import pathlib
import random
import unittest

import movedyears
from movedyears.accounts import Account
from movedyears.alike import alike_paper, are_alike, verify_alike
from movedyears.carrying import Carry, CarryRules, format_carry, loss, made_carry, moved, parse_carry
from movedyears.errors import PowerCut
from movedyears.journal import Device, JournaledAccount, opened, record_of, recovered
from movedyears.longest import greatest_sums, lengths
from movedyears.losses import (
    bound_paper, endless_paper, greatest_loss, losing_career, losses_from, verify_bound, verify_endless,
)
from movedyears.machines import first_counts, is_machine, leave_gain, made, year_counts, year_gain
from movedyears.merging import better_of, sum_of, times
from movedyears.moments import best_year, expected, guaranteed, mean_of, mean_sums, worst_sums
from movedyears.pairs import Pairs, first_careers, left_from, moved_pairs
from movedyears.pumps import best_moves, pays, pump, pump_paper, spots, verify_no_pump
from movedyears.rules import Rules, format_rules, parse_rules
from movedyears.runs import gains_of, state_after, states_along, total
from movedyears.smallest import classes, smallest
from movedyears.subsidies import cheapest_takers, flat_subsidy, is_free, subsidies, subsidized
from samples import careers, fields, shown

PENSION = """facts work pause
count years 6 work 1
count idle 2 work reset pause 1
gain 30 work if years >= 2
gain 5 pause if idle < 1
leave 40 if years >= 4"""

POINTS = """facts work pause
count points 5 work 1
gain 20 work
gain 6 work if points >= 5
leave 3 if points >= 2 and points < 5"""

CARRY = """take points years less 1
cost 10 if years < 3
cost -4 if idle >= 2"""

BACK = """take years points less 2
cost 25"""


def story():
    """Return the rules of two schemes, their machines, and the carries to and fro.

    All states of both are come to, so that the machines of both ways are the same.
    """
    rules, other = parse_rules(PENSION), parse_rules(POINTS)
    machine, second, carry = made_carry(rules, other, parse_carry(CARRY, rules, other))
    back = made_carry(other, rules, parse_carry(BACK, other, rules))[2]
    return rules, other, machine, second, carry, back


class Story(unittest.TestCase):
    def test_from_texts_to_what_moving_can_cost(self):
        rules, other, machine, second, carry, back = story()
        self.assertEqual((format_rules(rules), format_rules(other)), (PENSION, POINTS))
        self.assertEqual(format_carry(parse_carry(CARRY, rules, other)), CARRY)
        self.assertTrue(is_machine(machine) and is_machine(second))
        self.assertEqual((len(back.to), max(back.to) < machine.many()), (second.many(), True))
        self.assertEqual(left_from(machine), list(range(machine.many())))
        # In the first scheme each further year of work brings 30, in the other one at most 26.
        self.assertIsNone(greatest_loss(machine, second, carry))
        self.assertTrue(verify_endless(machine, second, carry, endless_paper(machine, second, carry)))
        self.assertIsNone(losing_career(machine, second, carry))
        self.assertFalse(is_free(machine, second, carry))

    def test_papers_stand_for_what_is_told(self):
        _, _, machine, second, carry, back = story()
        # The way back can cost a bounded sum only.
        greatest = greatest_loss(second, machine, back)
        career, year = losing_career(second, machine, back)
        self.assertEqual(loss(second, machine, back, career, year), greatest)
        paper = bound_paper(second, machine, back)
        self.assertTrue(verify_bound(second, machine, back, greatest, paper))
        self.assertFalse(verify_bound(second, machine, back, greatest - 1, paper))
        most = max(
            loss(second, machine, back, one, at) for one in careers(second.facts, 7) for at in range(len(one) + 1)
        )
        self.assertEqual(most, greatest)
        # With the least subsidies the very same paper is right for the bound 0.
        free = subsidized(back, subsidies(second, machine, back))
        self.assertTrue(is_free(second, machine, free))
        self.assertTrue(verify_bound(second, machine, free, 0, paper))
        self.assertEqual(flat_subsidy(second, machine, back), max(0, greatest))

    def test_moments_fit_what_is_told_of_careers(self):
        _, _, machine, second, carry, _ = story()
        odds = {"work": 3, "pause": 1}
        rows = list(careers(machine.facts, 4))
        best = [best_year(machine, second, carry, career)[0] for career in rows if len(career) == 4]
        # Whoever does not know the facts ahead gets no more than whoever does.
        self.assertLessEqual(guaranteed(machine, second, carry, 4)[4][0][0], min(best))
        mean, scale = mean_of(machine, second, carry, odds, 4)
        weights = [3 ** career.count("work") for career in rows if len(career) == 4]
        self.assertLessEqual(mean * 4 ** 4, scale * sum(one * weight for one, weight in zip(best, weights)))
        self.assertGreaterEqual(guaranteed(machine, second, carry, 4)[4][0][0], worst_sums(machine, 4)[0])
        self.assertGreaterEqual(mean * 4 ** 4, scale * mean_sums(machine, odds, 4)[0])

    def test_machines_made_of_machines(self):
        _, _, machine, second, carry, _ = story()
        ahead = sum_of(machine, times(second, -1))
        better = better_of(machine, second, 1000)
        for career in careers(machine.facts, 5):
            self.assertEqual(total(better, 0, career), total(second, 0, career) + max(0, total(ahead, 0, career)))
        small = smallest(machine)
        self.assertTrue(verify_alike(machine, small, alike_paper(machine, small)))
        self.assertTrue(are_alike(sum_of(ahead, second), machine))
        self.assertEqual(shown(smallest(sum_of(ahead, second))), shown(small))
        self.assertLess(small.many(), machine.many())

    def test_schemes_with_carries_to_and_fro(self):
        _, _, machine, second, carry, back = story()
        schemes, carries = [machine, second], {(0, 1): carry, (1, 0): back}
        paper = pump_paper(schemes, carries)
        self.assertIsNone(pump(schemes, carries))
        self.assertTrue(verify_no_pump(schemes, carries, paper))
        carries[(1, 0)] = Carry(back.to, [-25] * second.many())
        spot, ring = pump(schemes, carries)
        self.assertEqual(pays(schemes, carries, spot, ring)[1], spot)
        self.assertFalse(verify_no_pump(schemes, carries, paper))
        # An account that goes round gets what the pump pays each time.
        account = Account(schemes, carries)
        for fact in first_careers(machine)[spot[1]]:
            account.year(fact)
        worth = account.worth()
        for _ in range(3):
            for other in ring:
                account.move(other)
        self.assertEqual(account.worth(), worth + 3 * pays(schemes, carries, spot, ring)[0])

    def test_an_account_gets_what_moves_are_told_to_give(self):
        _, _, machine, second, carry, back = story()
        for career in careers(machine.facts, 4):
            for year in range(len(career) + 1):
                journaled = opened([machine, second], {(0, 1): carry, (1, 0): back}, [], 1000)
                deeds = [("year", fact) for fact in career]
                deeds.insert(year, ("move", 1))
                for deed in deeds:
                    journaled.perform(deed)
                self.assertEqual(journaled.account.worth(), moved(machine, second, carry, career, year))
                self.assertEqual(recovered(journaled.device.octets)[0], deeds)


def containers(value):
    """Return all lists and dicts within what is returned, those of objects of the program too."""
    if isinstance(value, dict):
        return [value] + [one for part in value.values() for one in containers(part)]
    if isinstance(value, (list, tuple)):
        return [value] * isinstance(value, list) + [one for part in value for one in containers(part)]
    if type(value).__module__.startswith("movedyears."):
        return [one for part in vars(value).values() for one in containers(part)]
    return []


class ReturnedAnew(unittest.TestCase):
    """Each function is called twice: nothing is shared between what it is passed and what it returns."""

    def check(self, function, *passed):
        before = copy.deepcopy([self.seen(one) for one in passed])
        first, second = function(*passed), function(*passed)
        self.assertEqual(self.seen(first), self.seen(second))
        kept = {id(one) for part in passed for one in containers(part)} | {id(one) for one in containers(second)}
        for one in containers(first):
            self.assertNotIn(id(one), kept, function.__name__)
        self.assertEqual([self.seen(one) for one in passed], before, function.__name__)

    def seen(self, value):
        """Return a value with its objects written out."""
        if isinstance(value, dict):
            return {key: self.seen(part) for key, part in value.items()}
        if isinstance(value, (list, tuple)):
            return type(value)([self.seen(part) for part in value])
        if type(value).__module__.startswith("movedyears."):
            return {key: self.seen(part) for key, part in vars(value).items()}
        return value

    def test_rules_and_machines(self):
        rules, other, machine, second, carry, _ = story()
        counts = {"years": 2, "idle": 1}
        for passed in (
            (parse_rules, PENSION), (parse_carry, CARRY, rules, other), (made, rules), (Rules.names, rules),
            (made, rules, [{"years": 6, "idle": 2}]), (first_counts, rules), (year_counts, rules, counts, "work"),
            (year_gain, rules, counts, "work"), (leave_gain, rules, counts), (is_machine, machine),
            (made_carry, rules, other, parse_carry(CARRY, rules, other)),
            (format_carry, parse_carry(BACK, other, rules)), (format_rules, rules),
            (states_along, machine, 0, ["work", "pause"]), (gains_of, machine, 0, ["work", "pause"]),
            (state_after, machine, 0, ["work"]), (total, machine, 0, ["work"]),
            (moved, machine, second, carry, ["work"], 1), (loss, machine, second, carry, ["work"], 1),
        ):
            self.check(*passed)

    def test_pairs_and_papers(self):
        _, _, machine, second, carry, back = story()
        pairs = moved_pairs(second, machine, back)
        paper = bound_paper(second, machine, back)
        endless = endless_paper(machine, second, carry)
        small = smallest(machine)
        for passed in (
            (Pairs, machine, second, [(0, 0), (3, 1)]), (first_careers, machine), (left_from, machine),
            (moved_pairs, machine, second, carry), (greatest_sums, pairs), (lengths, pairs, greatest_sums(pairs)),
            (losses_from, machine, second, carry), (losing_career, second, machine, back),
            (bound_paper, second, machine, back), (verify_bound, second, machine, back, 100, paper),
            (endless_paper, machine, second, carry), (verify_endless, machine, second, carry, endless),
            (alike_paper, machine, small), (verify_alike, machine, small, alike_paper(machine, small)),
        ):
            self.check(*passed)

    def test_what_stands_on_them(self):
        _, _, machine, second, carry, back = story()
        schemes, carries = [machine, second], {(0, 1): carry, (1, 0): back}
        odds = {"work": 3, "pause": 1}
        for passed in (
            (classes, machine), (smallest, machine), (subsidies, second, machine, back),
            (subsidized, carry, [1] * machine.many()), (cheapest_takers, machine, second, carry),
            (best_year, machine, second, carry, ["work", "work"]), (guaranteed, machine, second, carry, 3),
            (expected, machine, second, carry, odds, 3), (mean_of, machine, second, carry, odds, 3),
            (worst_sums, machine, 0), (worst_sums, machine, 2), (mean_sums, machine, odds, 0),
            (mean_sums, machine, odds, 2), (spots, schemes), (pump, schemes, carries),
            (pump, schemes, {(0, 1): carry, (1, 0): Carry(back.to, [-99] * second.many())}),
            (pays, schemes, carries, (0, 0), [1, 0]), (pump_paper, schemes, carries),
            (verify_no_pump, schemes, carries, pump_paper(schemes, carries)), (best_moves, schemes, carries, (0, 0)),
            (sum_of, machine, second), (times, machine, 1), (better_of, machine, machine, 10 ** 4),
            (record_of, ("year", "work")), (recovered, record_of(("year", "work")) + [9]), (Device, [1, 2], 5),
        ):
            self.check(*passed)


class BeyondTheLimits(unittest.TestCase):
    """Somewhat beyond the limits of the points no error is raised."""

    def rules(self):
        facts = ["one", "two", "three", "four", "five", "six", "seven", "eightletters"]
        counters = [(name, 30, {"one": 25, "eightletters": "reset"}) for name in ("a", "b", "c", "d")]
        gains = [(5000 + at, "one", [("a", ">=", 25)]) for at in range(25)]
        return Rules(facts, counters, gains, [(-5000, [("d", "<", 30)]) for _ in range(25)])

    def test_rules_and_machines(self):
        rules = self.rules()
        self.assertEqual(len(format_rules(rules).split("\n")), 1 + 4 + 25 + 25)
        machine, counts = made(rules)
        self.assertEqual([row["a"] for row in counts], [0, 25, 30])
        self.assertEqual(machine.gain[1]["one"], sum(range(5000, 5025)))
        self.assertEqual(machine.leave, [-125000, -125000, 0])
        carry_rules = CarryRules([("a", "b", 28)], [(9999, [("a", "<", 29)]) for _ in range(22)])
        self.assertEqual(format_carry(carry_rules).split("\n")[0], "take a b less 28")
        _, second, carry = made_carry(rules, rules, carry_rules)
        self.assertEqual(carry.cost, [22 * 9999, 22 * 9999, 0])
        self.assertEqual(second.many(), 5)
        self.assertEqual(fields(rules), fields(self.rules()))

    def test_deeds_and_accounts(self):
        machine = made(self.rules())[0]
        schemes = [machine] * 300
        carries = {(0, 299): Carry([0, 1, 2], [10 ** 9] * 3)}
        journaled = JournaledAccount(Account(schemes, carries), Device([], 10 ** 6))
        self.assertEqual(journaled.perform(("year", "eightletters")), 0)
        self.assertEqual(journaled.perform(("move", 299)), 10 ** 9)
        self.assertEqual(journaled.account.deeds, [("year", "eightletters"), ("move", 299)])

    def test_long_careers(self):
        machine = made(self.rules())[0]
        career = ["one"] * 3000
        self.assertEqual(len(states_along(machine, 0, career)), 3001)
        carry = Carry([0, 1, 2], [1] * 3)
        self.assertEqual(best_year(machine, machine, carry, career), (total(machine, 0, career), None))
        account = Account([machine], {})
        for fact in career:
            account.year(fact)
        self.assertEqual(account.worth(), total(machine, 0, career))
        self.assertTrue(all([account.branch().undo() for _ in range(3)]))


class Package(unittest.TestCase):
    def test_it_holds_nothing_but_its_own_files(self):
        folder = pathlib.Path(movedyears.__file__).parent
        names = [one.name for one in folder.iterdir() if one.name != "__pycache__"]
        self.assertEqual([name for name in names if not name.endswith(".py")], [])

    def test_a_cut_changes_nothing_but_what_is_told(self):
        rng = random.Random(141)
        device = Device([rng.randrange(256) for _ in range(5)], 0)
        before = list(device.octets)
        with self.assertRaises(PowerCut):
            device.append(1)
        self.assertEqual((device.octets, device.power), (before, 0))


if __name__ == "__main__":
    unittest.main()
