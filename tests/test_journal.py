"""Devices, journaled accounts and opening them again, point [35]."""

import copy
import random
import unittest

from movedyears.accounts import Account
from movedyears.carrying import Carry
from movedyears.errors import NoCarry, PowerCut, ShutError, UnknownFact
from movedyears.journal import Device, JournaledAccount, opened, record_of, recovered
from samples import machine_of, shown


def sample():
    """Return two schemes with carries to and fro."""
    schemes = [
        machine_of(["work", "b"], [([1, 0], [10, -3], 100), ([1, 0], [20, 0], 200)]),
        machine_of(["work", "b"], [([0, 1], [1, 2], 5), ([1, 0], [3, 4], 6)]),
    ]
    return schemes, {(0, 1): Carry([1, 0], [7, -8]), (1, 0): Carry([0, 1], [0, 50])}


def journaled_with(power, octets=()):
    return JournaledAccount(Account(*sample()), Device(list(octets), power))


def told(account):
    """Return all that an account tells."""
    return (account.scheme(), account.state(), account.paid(), account.worth(), list(account.deeds))


def written(deeds):
    """Return the octets of the records of deeds."""
    return [octet for deed in deeds for octet in record_of(deed)]


DEEDS = [("year", "work"), ("move", 1), ("year", "b"), ("undo",), ("move", 0), ("undo",), ("year", "work")]
GIVEN = [10, -8, 2, True, 0, True, 1]


class Devices(unittest.TestCase):
    def check_cut(self, device, many):
        for _ in range(3):
            octets = list(device.octets)
            with self.assertRaises(PowerCut) as caught:
                device.append(9)
            self.assertEqual(caught.exception.written, many)
            self.assertEqual((device.octets, device.power), (octets, 0))

    def test_fields(self):
        device = Device([1, 2], 7)
        self.assertEqual((device.octets, device.power), ([1, 2], 7))
        self.assertIs(type(device.octets), list)

    def test_without_power(self):
        self.check_cut(Device([], 0), 0)
        self.check_cut(Device([5, 6, 7], 0), 3)

    def test_until_the_power_is_gone(self):
        for before in ([], [8], [8, 9, 10]):
            for power in (1, 2, 5):
                device = Device(before, power)
                for octet in range(power):
                    device.append(octet)
                    self.assertEqual(device.power, power - octet - 1)
                    self.assertEqual(device.octets, before + list(range(octet + 1)))
                self.check_cut(device, len(before) + power)

    def test_what_is_passed_in_is_not_changed(self):
        octets = [1, 2]
        device = Device(octets, 5)
        device.append(3)
        self.assertEqual((octets, device.octets), ([1, 2], [1, 2, 3]))


class Performing(unittest.TestCase):
    def test_fields(self):
        account, device = Account(*sample()), Device([], 50)
        journaled = JournaledAccount(account, device)
        self.assertIs(journaled.account, account)
        self.assertIs(journaled.device, device)
        self.assertIs(journaled.shut, False)

    def test_it_returns_what_the_account_returns_and_writes_each_record(self):
        journaled = journaled_with(1000)
        plain = Account(*sample())
        for many, (deed, given) in enumerate(zip(DEEDS, GIVEN)):
            found = journaled.perform(deed)
            self.assertEqual(found, given)
            self.assertIs(type(found), type(given))
            {"year": plain.year, "move": plain.move, "undo": plain.undo}[deed[0]](*deed[1:])
            self.assertEqual(told(journaled.account), told(plain))
            self.assertEqual(journaled.device.octets, written(DEEDS[:many + 1]))
            self.assertEqual(journaled.device.power, 1000 - len(written(DEEDS[:many + 1])))
        self.assertIs(journaled.shut, False)
        self.assertEqual(recovered(journaled.device.octets), (DEEDS, len(written(DEEDS))))

    def test_a_gain_and_a_cost_of_0_are_written(self):
        journaled = journaled_with(1000)
        for deed in (("year", "work"), ("year", "b"), ("move", 1), ("year", "b"), ("move", 0)):
            journaled.perform(deed)
        self.assertEqual(journaled.account.year("work"), 10)
        self.assertEqual([len(recovered(journaled.device.octets)[0]), len(journaled.account.deeds)], [5, 6])

    def test_facts_with_the_names_of_deeds(self):
        machine = machine_of(["undo", "move", "year"], [([0, 0, 0], [0, 1, 0], 0)])
        journaled = JournaledAccount(Account([machine], {}), Device([], 100))
        deeds = [("year", "undo"), ("year", "move"), ("year", "year")]
        self.assertEqual([journaled.perform(deed) for deed in deeds], [0, 1, 0])
        self.assertEqual(recovered(journaled.device.octets)[0], deeds)
        self.assertEqual(opened([machine], {}, journaled.device.octets, 0).account.deeds, deeds)

    def test_errors_of_the_account_write_nothing(self):
        for power in (0, 100):
            journaled = journaled_with(power, [1, 3, 3, 170])
            before = told(journaled.account)
            with self.assertRaises(UnknownFact) as caught:
                journaled.perform(("year", "play"))
            self.assertEqual(caught.exception.fact, "play")
            for other in (0, 2, 255):
                with self.assertRaises(NoCarry) as caught:
                    journaled.perform(("move", other))
                self.assertEqual((caught.exception.scheme, caught.exception.other), (0, other))
            self.assertEqual(told(journaled.account), before)
            self.assertEqual((journaled.device.octets, journaled.device.power), ([1, 3, 3, 170], power))
            self.assertIs(journaled.shut, False)

    def test_undoing_without_a_deed_writes_nothing(self):
        for power in (0, 100):
            journaled = journaled_with(power)
            for _ in range(2):
                self.assertIs(journaled.perform(("undo",)), False)
            self.assertEqual((journaled.device.octets, journaled.device.power), ([], power))
            self.assertIs(journaled.shut, False)
        self.assertEqual(journaled.perform(("year", "work")), 10)
        self.assertIs(journaled.perform(("undo",)), True)
        self.assertIs(journaled.perform(("undo",)), False)
        self.assertEqual(journaled.device.octets, written([("year", "work"), ("undo",)]))

    def test_deeds_of_the_account_ahead_of_it_can_be_undone(self):
        account = Account(*sample())
        account.year("work")
        journaled = JournaledAccount(account, Device([], 100))
        self.assertIs(journaled.perform(("undo",)), True)
        self.assertEqual(journaled.device.octets, written([("undo",)]))


class PowerGone(unittest.TestCase):
    def check_shut(self, journaled):
        """Check that each later call raises ShutError, and changes nothing."""
        self.assertIs(journaled.shut, True)
        before = told(journaled.account), list(journaled.device.octets), journaled.device.power
        for deed in (("year", "work"), ("year", "play"), ("move", 1), ("move", 9), ("undo",)) * 2:
            with self.assertRaises(ShutError):
                journaled.perform(deed)
        self.assertEqual((told(journaled.account), journaled.device.octets, journaled.device.power), before)
        self.assertIs(journaled.shut, True)

    def test_within_each_octet_of_a_record(self):
        for many, deed in enumerate(DEEDS):
            ahead = written(DEEDS[:many])
            for power in range(len(record_of(deed))):
                journaled = journaled_with(len(ahead) + power)
                for one in DEEDS[:many]:
                    journaled.perform(one)
                with self.assertRaises(PowerCut) as caught:
                    journaled.perform(deed)
                self.assertEqual(caught.exception.written, len(ahead) + power)
                self.assertEqual(journaled.device.octets, ahead + record_of(deed)[:power])
                # The deed stays done in the account, and is not recovered.
                plain = journaled_with(1000)
                for one in DEEDS[:many + 1]:
                    plain.perform(one)
                self.assertEqual(told(journaled.account), told(plain.account))
                self.assertEqual(recovered(journaled.device.octets), (DEEDS[:many], len(ahead)))
                self.check_shut(journaled)

    def test_just_enough_power(self):
        octets = written(DEEDS)
        journaled = journaled_with(len(octets))
        self.assertEqual([journaled.perform(deed) for deed in DEEDS], GIVEN)
        self.assertEqual((journaled.device.octets, journaled.device.power, journaled.shut), (octets, 0, False))
        # Errors come ahead of writing, and so does undoing.
        with self.assertRaises(UnknownFact):
            journaled.perform(("year", "play"))
        self.assertIs(journaled.shut, False)
        with self.assertRaises(PowerCut) as caught:
            journaled.perform(("undo",))
        self.assertEqual(caught.exception.written, len(octets))
        self.assertEqual(journaled.account.deeds, [("year", "work"), ("move", 1)])
        self.assertEqual(recovered(journaled.device.octets), (DEEDS, len(octets)))
        self.check_shut(journaled)

    def test_one_octet_too_few(self):
        journaled = journaled_with(len(written(DEEDS)) - 1)
        for deed in DEEDS[:-1]:
            journaled.perform(deed)
        with self.assertRaises(PowerCut) as caught:
            journaled.perform(DEEDS[-1])
        self.assertEqual(caught.exception.written, len(written(DEEDS)) - 1)
        self.assertEqual(recovered(journaled.device.octets)[0], DEEDS[:-1])
        self.check_shut(journaled)

    def test_octets_that_were_there_count(self):
        journaled = journaled_with(2, written(DEEDS))
        with self.assertRaises(PowerCut) as caught:
            journaled.perform(("year", "b"))
        self.assertEqual(caught.exception.written, len(written(DEEDS)) + 2)
        self.assertEqual(journaled.device.octets, written(DEEDS) + [2, 1])

    def test_each_account_is_shut_of_its_own(self):
        first, second = journaled_with(0), journaled_with(100)
        with self.assertRaises(PowerCut):
            first.perform(("year", "b"))
        self.assertEqual(second.perform(("year", "b")), -3)


class Opened(unittest.TestCase):
    def test_the_deeds_are_done_and_the_rest_is_cut_off(self):
        plain = journaled_with(1000)
        for deed in DEEDS:
            plain.perform(deed)
        for rest in ([], [5], [5, 1, 119], [1, 3, 9, 170], [0, 0, 170] + written(DEEDS)):
            octets = written(DEEDS) + rest
            before = list(octets)
            journaled = opened(*sample(), octets, 30)
            self.assertIs(type(journaled), JournaledAccount)
            self.assertIs(type(journaled.account), Account)
            self.assertIs(type(journaled.device), Device)
            self.assertEqual(told(journaled.account), told(plain.account))
            self.assertEqual((journaled.device.octets, journaled.device.power), (written(DEEDS), 30))
            self.assertIs(journaled.shut, False)
            journaled.perform(("year", "b"))
            self.assertEqual(octets, before)

    def test_no_octets(self):
        for octets in ([], [9, 9, 9], [0, 0, 170]):
            journaled = opened(*sample(), octets, 0)
            self.assertEqual(told(journaled.account), (0, 0, 0, 100, []))
            self.assertEqual((journaled.device.octets, journaled.device.power), ([], 0))

    def test_it_goes_on_and_is_recovered_behind_the_others(self):
        first = journaled_with(len(written(DEEDS[:4])) + 3)
        for deed in DEEDS[:4]:
            first.perform(deed)
        with self.assertRaises(PowerCut):
            first.perform(("move", 0))
        second = opened(*sample(), first.device.octets, 100)
        self.assertEqual(second.account.deeds, [("year", "work"), ("move", 1)])
        self.assertEqual([second.perform(deed) for deed in DEEDS[4:]], GIVEN[4:])
        self.assertEqual(recovered(second.device.octets), (DEEDS, len(written(DEEDS))))
        # What was opened from is left as it was.
        self.assertEqual(first.device.octets, written(DEEDS[:4]) + record_of(("move", 0))[:3])
        self.assertIs(first.shut, True)

    def test_undone_deeds_are_not_done_again(self):
        journaled = opened(*sample(), written([("year", "b"), ("undo",), ("year", "work")]), 10)
        self.assertEqual(told(journaled.account), (0, 1, 10, 210, [("year", "work")]))
        self.assertIs(journaled.perform(("undo",)), True)
        self.assertIs(journaled.perform(("undo",)), False)

    def test_undoing_what_was_done_ahead_of_opening(self):
        journaled = opened(*sample(), written([("year", "work"), ("move", 1)]), 8)
        self.assertIs(journaled.perform(("undo",)), True)
        self.assertIs(journaled.perform(("undo",)), True)
        self.assertEqual(told(journaled.account), (0, 0, 0, 100, []))
        self.assertIs(journaled.perform(("undo",)), False)
        with self.assertRaises(PowerCut):
            journaled.perform(("year", "work"))


class Fact(unittest.TestCase):
    """Wherever the power went, what is recovered is the deeds that were told as done, in order."""

    def random_deed(self, rng):
        kind = rng.random()
        if kind < 0.5:
            return ("year", rng.choice(["work", "b", "play"]))
        return ("move", rng.randrange(3)) if kind < 0.75 else ("undo",)

    def perform(self, journaled, deed, done):
        """Perform a deed, and add it to those that were told as done; return whether there still is power."""
        try:
            if journaled.perform(deed) is not False:
                done.append(deed)
        except (UnknownFact, NoCarry):
            pass
        except PowerCut:
            return False
        return True

    def test_several_cuts(self):
        rng = random.Random(131)
        cuts = 0
        for _ in range(150):
            done = []
            journaled = opened(*sample(), [], rng.randint(0, 40))
            for _ in range(rng.randint(1, 40)):
                if not self.perform(journaled, self.random_deed(rng), done):
                    cuts += 1
                    self.assertEqual(recovered(journaled.device.octets)[0], done)
                    journaled = opened(*sample(), journaled.device.octets, rng.randint(0, 40))
                self.assertEqual(recovered(journaled.device.octets), (done, len(written(done))))
            again = Account(*sample())
            for deed in done:
                {"year": again.year, "move": again.move, "undo": again.undo}[deed[0]](*deed[1:])
            self.assertEqual(told(journaled.account), told(again))
        self.assertGreater(cuts, 100)


class Unchanged(unittest.TestCase):
    def test_what_is_passed_in_is_not_changed(self):
        schemes, carries = sample()
        octets = written(DEEDS) + [7]
        held = ([shown(machine) for machine in schemes], [(one.to, one.cost) for one in carries.values()], octets)
        before = copy.deepcopy(held)
        journaled = opened(schemes, carries, octets, 12)
        journaled.perform(("year", "work"))
        with self.assertRaises(PowerCut):
            journaled.perform(("year", "b"))
        self.assertEqual(held, before)
        self.assertEqual(sorted(carries), [(0, 1), (1, 0)])


if __name__ == "__main__":
    unittest.main()
