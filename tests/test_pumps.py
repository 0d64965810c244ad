"""Several schemes, spots, moves, pumps and papers against them, points [28] and [29]."""

import copy
import itertools
import random
import unittest

from movedyears.carrying import Carry, made_carry, parse_carry
from movedyears.errors import NoCarry
from movedyears.pumps import best_moves, pays, pump, pump_paper, spots, verify_no_pump
from movedyears.rules import parse_rules
from samples import machine_of, shown


def scheme_of(many):
    """Return a machine with so many states; what it pays does not matter for moves."""
    return machine_of(["a"], [([0], [50], 70) for _ in range(many)])


def sample():
    """Return three schemes with a pump of two moves, from (0, 1) and (2, 0), that pays 1.

    One of three moves, from (0, 0) over (1, 1) and (2, 1), pays 10.
    """
    schemes = [scheme_of(2), scheme_of(2), scheme_of(2)]
    carries = {
        (0, 1): Carry([1, 0], [-4, 9]), (1, 2): Carry([0, 1], [9, -4]), (2, 0): Carry([1, 0], [3, -2]),
        (0, 2): Carry([0, 0], [9, -4]),
    }
    return schemes, carries


def without_pump():
    """Return the sample with two dearer moves: a ring of two moves pays exactly nought, that of three -2."""
    schemes, carries = sample()
    carries[(0, 2)].cost[1] = -3
    carries[(2, 0)].cost[1] = 10
    return schemes, carries


def random_rounds(rng, most):
    """Return two schemes whose states are carried to and fro, each into one of its own."""
    many = rng.randint(2, 4)
    carries = {}
    for key in ((0, 1), (1, 0)):
        carries[key] = Carry(rng.sample(range(many), many), [rng.randint(-2, most) for _ in range(many)])
    return [scheme_of(many), scheme_of(many)], carries


def random_schemes(rng, most):
    """Return two or three schemes, with carries between some of them."""
    if rng.random() < 0.3:
        return random_rounds(rng, most)
    schemes = [scheme_of(rng.randint(1, 2)) for _ in range(rng.randint(2, 3))]
    carries = {}
    for scheme, other in itertools.permutations(range(len(schemes)), 2):
        if rng.random() < 0.75:
            many = schemes[scheme].many()
            to = [rng.randrange(schemes[other].many()) for _ in range(many)]
            carries[(scheme, other)] = Carry(to, [rng.randint(-2, most) for _ in range(many)])
    return schemes, carries


def rows_from(schemes, carries, spot, longest):
    """Return all rows of moves from a spot up to a length, as tuples (row, paid, the spot it leads to)."""
    found = [((), 0, spot)]
    begin = 0
    for _ in range(longest):
        end = len(found)
        for row, paid, (scheme, state) in found[begin:end]:
            for other in range(len(schemes)):
                if (scheme, other) in carries:
                    carry = carries[(scheme, other)]
                    found.append((row + (other,), paid - carry.cost[state], (other, carry.to[state])))
        begin = end
    return found


class Spots(unittest.TestCase):
    def test_of_one_scheme_and_of_several(self):
        self.assertEqual(spots([scheme_of(1)]), [(0, 0)])
        self.assertEqual(spots([scheme_of(3)]), [(0, 0), (0, 1), (0, 2)])
        told = spots([scheme_of(2), scheme_of(1), scheme_of(3)])
        self.assertIs(type(told), list)
        self.assertEqual(told, [(0, 0), (0, 1), (1, 0), (2, 0), (2, 1), (2, 2)])

    def test_ascending_by_numbers(self):
        told = spots([scheme_of(12)] * 11)
        self.assertEqual(told, sorted(told))
        self.assertEqual(len(told), 132)

    def test_no_scheme(self):
        self.assertEqual(spots([]), [])


class Pays(unittest.TestCase):
    def check(self, spot, ring, told):
        found = pays(*sample(), spot, ring)
        self.assertIs(type(found), tuple)
        self.assertEqual(found, told)

    def test_what_a_row_of_moves_pays_and_where_it_leads(self):
        self.check((0, 0), [], (0, (0, 0)))
        self.check((2, 1), [], (0, (2, 1)))
        self.check((0, 0), [1], (4, (1, 1)))
        self.check((0, 1), [1], (-9, (1, 0)))
        self.check((0, 1), [2], (4, (2, 0)))
        self.check((0, 1), [2, 0], (1, (0, 1)))
        self.check((0, 0), [1, 2, 0], (10, (0, 0)))
        self.check((0, 0), [1, 2, 0] * 4 + [2], (31, (2, 0)))

    def check_no_carry(self, spot, ring, scheme, other):
        with self.assertRaises(NoCarry) as caught:
            pays(*sample(), spot, ring)
        self.assertEqual((caught.exception.scheme, caught.exception.other), (scheme, other))

    def test_the_first_move_that_there_is_not(self):
        self.check_no_carry((1, 0), [0], 1, 0)
        self.check_no_carry((2, 1), [1], 2, 1)
        self.check_no_carry((0, 0), [1, 2, 1, 0], 2, 1)
        self.check_no_carry((0, 0), [1, 0, 9], 1, 0)
        self.check_no_carry((0, 0), [0], 0, 0)
        self.check_no_carry((0, 0), [2, 7], 2, 7)
        self.check_no_carry((0, 0), [2, -1], 2, -1)


class Pump(unittest.TestCase):
    def check(self, schemes, carries, told):
        found = pump(schemes, carries)
        self.assertEqual(found, told)
        if told is not None:
            self.assertIs(type(found), tuple)
            self.assertIs(type(found[1]), list)
            paid, spot = pays(schemes, carries, *found)
            self.assertGreater(paid, 0)
            self.assertEqual(spot, found[0])
        self.assertEqual(pump_paper(schemes, carries) is None, told is not None)

    def test_two_moves(self):
        two = [scheme_of(1), scheme_of(1)]
        for there, back in ((-1, 0), (-5, 4), (4, -5), (-5, 5), (5, -4), (0, 0)):
            carries = {(0, 1): Carry([0], [there]), (1, 0): Carry([0], [back])}
            self.check(two, carries, ((0, 0), [1, 0]) if there + back < 0 else None)

    def test_three_moves(self):
        three = [scheme_of(1)] * 3
        for last, told in ((-8, True), (-7, False), (-6, False)):
            carries = {(0, 1): Carry([0], [3]), (1, 2): Carry([0], [4]), (2, 0): Carry([0], [last])}
            self.check(three, carries, ((0, 0), [1, 2, 0]) if told else None)
            carries = {(0, 2): Carry([0], [3]), (2, 1): Carry([0], [4]), (1, 0): Carry([0], [last])}
            self.check(three, carries, ((0, 0), [2, 1, 0]) if told else None)

    def test_the_fewest_moves(self):
        schemes, carries = sample()
        self.check(schemes, carries, ((0, 1), [2, 0]))
        # Without the pump of two moves that of three, which begins earlier.
        carries[(0, 2)].cost[1] = -3
        self.check(schemes, carries, ((0, 0), [1, 2, 0]))
        carries[(2, 0)].cost[1] = 8
        self.check(schemes, carries, None)

    def test_the_first_spot_that_has_one_with_so_few(self):
        two = [scheme_of(3), scheme_of(3)]
        carries = {(0, 1): Carry([2, 1, 0], [0, 0, 0]), (1, 0): Carry([1, 1, 2], [-1, -1, 9])}
        self.check(two, carries, ((0, 1), [1, 0]))
        carries = {(0, 1): Carry([2, 1, 0], [0, 1, -1]), (1, 0): Carry([2, 1, 0], [1, 0, -1])}
        self.check(two, carries, ((0, 0), [1, 0]))
        # That of scheme 1 has the least numbers only behind the schemes ahead of it.
        three = [scheme_of(2), scheme_of(2), scheme_of(2)]
        carries = {(1, 2): Carry([0, 1], [1, -3]), (2, 1): Carry([0, 1], [1, 2])}
        self.check(three, carries, ((1, 1), [2, 1]))

    def test_a_ring_has_to_lead_back_to_the_very_spot(self):
        # There and back pays, but each time it leads to the next state, where it ends.
        two = [scheme_of(3), scheme_of(3)]
        self.check(two, {(0, 1): Carry([1, 2, 2], [-5, -5, 0]), (1, 0): Carry([0, 1, 2], [0, 0, 0])}, None)

    def test_a_pump_that_goes_round_several_times(self):
        # From state to state of both schemes: only the whole way round pays.
        two = [scheme_of(3), scheme_of(3)]
        carries = {(0, 1): Carry([0, 1, 2], [0, 0, -9]), (1, 0): Carry([1, 2, 0], [4, 4, 0])}
        self.check(two, carries, ((0, 0), [1, 0] * 3))
        carries[(0, 1)].cost[2] = -8
        self.check(two, carries, None)

    def test_states_that_are_not_come_to(self):
        # No career leads to state 1 of either machine.
        two = [scheme_of(2), scheme_of(2)]
        self.check(two, {(0, 1): Carry([0, 1], [0, -1]), (1, 0): Carry([0, 1], [0, 0])}, ((0, 1), [1, 0]))

    def test_carries_that_lack(self):
        self.check([scheme_of(2)], {}, None)
        self.check([scheme_of(2)] * 3, {}, None)
        self.check([], {}, None)
        self.check([scheme_of(1)] * 2, {(0, 1): Carry([0], [-9])}, None)
        self.check([scheme_of(1)] * 3, {(0, 1): Carry([0], [-9]), (1, 2): Carry([0], [-9])}, None)

    def test_what_the_machines_pay_does_not_matter(self):
        two = [scheme_of(1), machine_of(["a"], [([0], [-900], 900)])]
        self.check(two, {(0, 1): Carry([0], [0]), (1, 0): Carry([0], [0])}, None)

    def check_all(self, schemes, carries):
        """Check against all rows of moves that have at most as many moves as there are spots."""
        many = len(spots(schemes))
        pumps = []
        for spot in spots(schemes):
            for row, paid, behind in rows_from(schemes, carries, spot, many):
                if row and behind == spot and paid > 0:
                    pumps.append((len(row), spot))
        found = pump(schemes, carries)
        if not pumps:
            self.assertIsNone(found)
            return 0
        spot, ring = found
        self.assertEqual((len(ring), spot), min(pumps))
        paid, behind = pays(schemes, carries, spot, ring)
        self.assertTrue(paid > 0 and behind == spot)
        return len(ring)

    def test_against_all_rows_of_moves(self):
        rng = random.Random(91)
        found = [self.check_all(*random_schemes(rng, 2 + turn % 4)) for turn in range(1200)]
        for many, least in ((0, 50), (2, 50), (3, 15), (4, 15), (6, 4)):
            self.assertGreater(found.count(many), least)

    def test_long_rings(self):
        many = 60
        two = [scheme_of(many), scheme_of(many)]
        costs = [1] * (many - 1) + [-many]
        carries = {
            (0, 1): Carry(list(range(many)), [0] * many),
            (1, 0): Carry([(state + 1) % many for state in range(many)], costs),
        }
        self.check(two, carries, ((0, 0), [1, 0] * many))
        carries[(1, 0)].cost[0] = 2
        self.check(two, carries, None)

    def test_many_spots(self):
        many = 700
        three = [scheme_of(many)] * 3
        carries = {}
        for scheme, other in itertools.permutations(range(3), 2):
            carries[(scheme, other)] = Carry([max(0, state - 1) for state in range(many)], list(range(many)))
        self.check(three, carries, None)
        carries[(0, 2)].cost[0] = -1
        self.check(three, carries, ((0, 0), [2, 0]))


class BestMoves(unittest.TestCase):
    def check(self, schemes, carries, told):
        found = [best_moves(schemes, carries, spot) for spot in spots(schemes)]
        self.assertEqual(found, told)
        paper = pump_paper(schemes, carries)
        if None in told:
            self.assertIsNone(paper)
        else:
            self.assertIs(type(paper), list)
            self.assertEqual(paper, list(zip(spots(schemes), told)))

    def test_no_move_at_all(self):
        self.check([scheme_of(2)], {}, [0, 0])
        self.check([scheme_of(1)] * 3, {}, [0, 0, 0])

    def test_moves_that_cost(self):
        two = [scheme_of(1), scheme_of(1)]
        self.check(two, {(0, 1): Carry([0], [5])}, [0, 0])
        self.check(two, {(0, 1): Carry([0], [0]), (1, 0): Carry([0], [0])}, [0, 0])

    def test_moves_that_pay(self):
        two = [scheme_of(2), scheme_of(2)]
        self.check(two, {(0, 1): Carry([1, 0], [-5, -3])}, [5, 3, 0, 0])
        self.check(two, {(0, 1): Carry([1, 0], [-5, 5]), (1, 0): Carry([1, 1], [-4, 9])}, [5, 0, 4, 0])
        # It costs at first, and pays with the next move.
        three = [scheme_of(1)] * 3
        carries = {(0, 1): Carry([0], [5]), (1, 2): Carry([0], [-7]), (2, 0): Carry([0], [-2])}
        self.check(three, carries, [None] * 3)
        carries[(2, 0)].cost[0] = 2
        self.check(three, carries, [2, 7, 0])
        carries[(0, 2)] = Carry([0], [-1])
        self.check(three, carries, [2, 7, 0])
        carries[(0, 2)] = Carry([0], [-2])
        carries[(1, 2)] = Carry([0], [-6])
        self.check(three, carries, [2, 6, 0])

    def test_a_pump_anywhere(self):
        three = [scheme_of(2)] * 3
        carries = {(1, 2): Carry([0, 1], [0, -1]), (2, 1): Carry([0, 1], [0, 0])}
        self.check(three, carries, [None] * 6)
        carries[(1, 2)].cost[1] = 0
        self.check(three, carries, [0] * 6)

    def test_against_all_rows_of_moves(self):
        rng = random.Random(92)
        kinds = [0, 0]
        for turn in range(300):
            schemes, carries = random_schemes(rng, 2 + turn % 5)
            many = len(spots(schemes))
            most = [max(paid for _, paid, _ in rows_from(schemes, carries, spot, many)) for spot in spots(schemes)]
            if pump(schemes, carries) is not None:
                most = [None] * many
            kinds[None in most] += 1
            self.check(schemes, carries, most)
        self.assertGreater(min(kinds), 50)


class VerifyNoPump(unittest.TestCase):
    PAPER = [((0, 0), 8), ((0, 1), 3), ((1, 0), 0), ((1, 1), 4), ((2, 0), 0), ((2, 1), 0)]

    def check(self, right, paper):
        schemes, carries = without_pump()
        before = copy.deepcopy(paper)
        self.assertIs(verify_no_pump(schemes, carries, paper), right)
        self.assertEqual(paper, before)

    def test_the_told_one(self):
        self.assertEqual(pump_paper(*without_pump()), self.PAPER)
        self.check(True, self.PAPER)

    def test_numbers_raised_all_alike(self):
        for more in (1, 2, 50, 10 ** 20, -1, -7, -(10 ** 20)):
            self.check(True, [(spot, number + more) for spot, number in self.PAPER])

    def test_one_number_too_small(self):
        # From (1, 0) and (2, 1) on moves only cost, by more than 1: their numbers may be smaller.
        for place, (spot, number) in enumerate(self.PAPER):
            paper = list(self.PAPER)
            paper[place] = (spot, number - 1)
            self.check(spot in ((1, 0), (2, 1)), paper)
        self.check(True, self.PAPER[:2] + [((1, 0), -9)] + self.PAPER[3:5] + [((2, 1), -2)])
        self.check(False, self.PAPER[:2] + [((1, 0), -10)] + self.PAPER[3:])
        self.check(False, self.PAPER[:5] + [((2, 1), -3)])

    def stands(self, paper):
        """Return whether the numbers of a paper with all spots are right, by the words of the document."""
        schemes, carries = without_pump()
        numbers = dict(paper)
        for (scheme, other), carry in carries.items():
            for state in range(schemes[scheme].many()):
                if numbers[(scheme, state)] < -carry.cost[state] + numbers[(other, carry.to[state])]:
                    return False
        return True

    def test_a_spot_is_lacking(self):
        for place in range(len(self.PAPER)):
            self.check(False, self.PAPER[:place] + self.PAPER[place + 1:])
        self.check(False, [])

    def test_a_spot_that_stands_twice_or_is_none(self):
        for one in self.PAPER:
            self.check(False, self.PAPER + [one])
        for spot in ((0, 2), (3, 0), (-1, 0), (0, -1)):
            self.check(False, self.PAPER + [(spot, 0)])

    def test_the_order_is_free(self):
        self.check(True, self.PAPER[::-1])
        self.check(True, self.PAPER[3:] + self.PAPER[:3])

    def test_without_moves_any_numbers_are_right(self):
        self.assertIs(verify_no_pump([scheme_of(2)], {}, [((0, 0), -5), ((0, 1), 99)]), True)
        self.assertIs(verify_no_pump([], {}, []), True)

    def test_no_paper_is_right_where_there_is_a_pump(self):
        schemes, carries = sample()
        self.assertIs(verify_no_pump(schemes, carries, self.PAPER), False)
        rng = random.Random(93)
        for turn in range(200):
            schemes, carries = random_schemes(rng, 2 + turn % 5)
            paper = pump_paper(schemes, carries)
            if paper is not None:
                self.assertIs(verify_no_pump(schemes, carries, paper), True)
                continue
            for _ in range(10):
                tried = [(spot, rng.randint(-3, 6)) for spot in spots(schemes)]
                self.assertIs(verify_no_pump(schemes, carries, tried), False)

    def test_random_numbers(self):
        rng = random.Random(94)
        kinds = [0, 0]
        for turn in range(600):
            paper = [(spot, number + rng.choice([0, 0, 0, 0, 1, -1])) for spot, number in self.PAPER]
            right = self.stands(paper)
            self.check(right, paper)
            kinds[right] += 1
        self.assertGreater(min(kinds), 20)


class MachinesOfRules(unittest.TestCase):
    def test_carries_that_are_made(self):
        rules = parse_rules("facts work\ncount years 3 work 1\ngain 5 work")
        other = parse_rules("facts work\ncount points 3 work 1\ngain 7 work")
        there = parse_carry("take points years\ncost -10 if years >= 3\ncost 9 if years < 3", rules, other)
        for text, told in (("take years points\ncost 4", ((0, 3), [1, 0])), ("take years points less 1\ncost 4", None)):
            machine, second, carry = made_carry(rules, other, there)
            back = made_carry(other, rules, parse_carry(text, other, rules))
            self.assertEqual([shown(one) for one in back[:2]], [shown(second), shown(machine)])
            schemes, carries = [machine, second], {(0, 1): carry, (1, 0): back[2]}
            self.assertEqual(pump(schemes, carries), told)
            if told is None:
                # From (1, 3) on it does not pay to move and come back, as a year is lost on the way.
                self.assertEqual(pump_paper(schemes, carries), list(zip(spots(schemes), [0, 0, 0, 10, 0, 0, 0, 0])))


class Unchanged(unittest.TestCase):
    def test_what_is_passed_in_is_not_changed(self):
        for schemes, carries in (sample(), without_pump()):
            ring = [1, 2, 0]
            before = copy.deepcopy(self.held(schemes, carries, ring))
            spots(schemes).clear()
            pays(schemes, carries, (0, 0), ring)
            for told in (pump(schemes, carries), pump_paper(schemes, carries)):
                if isinstance(told, list):
                    told.clear()
                elif told is not None:
                    told[1].clear()
            best_moves(schemes, carries, (0, 0))
            verify_no_pump(schemes, carries, list(VerifyNoPump.PAPER))
            self.assertEqual(self.held(schemes, carries, ring), before)

    def held(self, schemes, carries, ring):
        rows = [(key, carry.to, carry.cost) for key, carry in carries.items()]
        return [shown(machine) for machine in schemes], rows, ring


if __name__ == "__main__":
    unittest.main()
