"""Deeds, their records and recovering them, points [33] and [34]."""

import random
import unittest

from movedyears.journal import record_of, recovered

DEEDS = [
    ("year", "a"), ("move", 1), ("undo",), ("year", "abcdwxyz"), ("move", 0), ("move", 255), ("year", "zzzzzzzz"),
    ("undo",), ("move", 170), ("year", "work"),
]


def written(deeds):
    """Return the octets of the records of deeds."""
    return [octet for deed in deeds for octet in record_of(deed)]


def record_with(body):
    """Return a record with a body and the right sum."""
    return [len(body)] + body + [sum(body) % 256, 170]


def random_deed(rng):
    kind = rng.randrange(3)
    if kind == 0:
        return ("year", "".join(rng.choice("abcdefghijklmnopqrstuvwxyz") for _ in range(rng.randint(1, 8))))
    return ("move", rng.randrange(256)) if kind == 1 else ("undo",)


class Records(unittest.TestCase):
    def check(self, deed, record):
        told = record_of(deed)
        self.assertIs(type(told), list)
        self.assertEqual(told, record)
        self.assertEqual(recovered(record), ([deed], len(record)))

    def test_years(self):
        self.check(("year", "a"), [2, 1, 97, 98, 170])
        self.check(("year", "z"), [2, 1, 122, 123, 170])
        self.check(("year", "work"), [5, 1, 119, 111, 114, 107, 196, 170])
        self.check(("year", "zzzzzzzz"), [9, 1] + [122] * 8 + [209, 170])
        self.check(("year", "abcdwxyz"), [9, 1, 97, 98, 99, 100, 119, 120, 121, 122, 109, 170])

    def test_each_letter(self):
        for place, letter in enumerate("abcdefghijklmnopqrstuvwxyz"):
            self.check(("year", letter), [2, 1, 97 + place, 98 + place, 170])

    def test_moves(self):
        self.check(("move", 0), [2, 2, 0, 2, 170])
        self.check(("move", 1), [2, 2, 1, 3, 170])
        self.check(("move", 170), [2, 2, 170, 172, 170])
        self.check(("move", 253), [2, 2, 253, 255, 170])
        self.check(("move", 254), [2, 2, 254, 0, 170])
        self.check(("move", 255), [2, 2, 255, 1, 170])

    def test_undoing(self):
        self.check(("undo",), [1, 3, 3, 170])

    def test_they_are_new(self):
        for deed in DEEDS:
            record = record_of(deed)
            before = list(record)
            record.clear()
            self.assertEqual(record_of(deed), before)

    def test_octets(self):
        rng = random.Random(121)
        for _ in range(300):
            deed = random_deed(rng)
            record = record_of(deed)
            self.assertTrue(all(type(octet) is int and 0 <= octet <= 255 for octet in record))
            self.check(deed, record_with(record[1:-2]))


class Recovering(unittest.TestCase):
    def check(self, octets, deeds, taken):
        before = list(octets)
        told = recovered(octets)
        self.assertIs(type(told), tuple)
        self.assertIs(type(told[0]), list)
        self.assertEqual(told, (deeds, taken))
        self.assertEqual(octets, before)

    def test_nothing(self):
        self.check([], [], 0)

    def test_whole_records(self):
        self.check(written(DEEDS), DEEDS, len(written(DEEDS)))
        for deed in DEEDS:
            self.check(written([deed] * 3), [deed] * 3, 3 * len(record_of(deed)))

    def test_cut_at_each_place(self):
        octets = written(DEEDS)
        for cut in range(len(octets) + 1):
            many = max(many for many in range(len(DEEDS) + 1) if len(written(DEEDS[:many])) <= cut)
            self.check(octets[:cut], DEEDS[:many], len(written(DEEDS[:many])))

    def test_a_wrong_octet_in_each_part(self):
        deeds = DEEDS[:5]
        octets = written(deeds)
        for place, right in enumerate(octets):
            many = max(many for many in range(len(deeds)) if len(written(deeds[:many])) <= place)
            taken = len(written(deeds[:many]))
            for wrong in range(256):
                if wrong != right:
                    self.check(octets[:place] + [wrong] + octets[place + 1:], deeds[:many], taken)

    def test_the_octet_behind_the_sum(self):
        for last in (0, 169, 171, 255):
            self.check([1, 3, 3, last], [], 0)
            self.check([1, 3, 3, 170, 2, 2, 7, 9, last], [("undo",)], 4)

    def check_body(self, body):
        """Check that a record with this body is not whole, whatever stands around it."""
        record = record_with(body)
        self.check(record, [], 0)
        self.check(written(DEEDS) + record + written(DEEDS), DEEDS, len(written(DEEDS)))

    def test_the_empty_body(self):
        self.check_body([])
        self.check([0, 0, 170, 0, 0, 170], [], 0)

    def test_bodies_that_are_too_long_or_too_short(self):
        self.check_body([3, 3])
        self.check_body([3, 0])
        self.check_body([2])
        self.check_body([2, 1, 1])
        self.check_body([2, 0, 0])
        self.check_body([1])
        self.check_body([1] + [97] * 9)
        self.check_body([1] + [97] * 200)
        self.check_body([1] + [97] * 254)

    def test_bodies_with_other_signs(self):
        for octet in [0, 1, 2, 3, 32, 65, 90, 96, 123, 170, 255]:
            self.check_body([1, octet])
            self.check_body([1, 97, octet])
            self.check_body([1, octet, 97])
            self.check_body([1] + [122] * 7 + [octet])

    def test_other_first_octets(self):
        for first in [0] + list(range(4, 256)):
            self.check_body([first])
            self.check_body([first, 97])
            self.check_body([first, 97, 97])

    def test_nothing_behind_the_first_one_that_is_not_whole(self):
        octets = written(DEEDS)
        for rest in ([1], [1, 3], [1, 3, 3], [0], [255], [170], [1, 3, 4, 170], [2, 1, 97, 99, 170]):
            self.check(rest + octets, [], 0)
            self.check(octets + rest + octets, DEEDS, len(octets))

    def test_the_length_says_where_it_ends(self):
        # Within a longer body a whole record stands, which is none of its own.
        self.check([9, 1, 3, 3, 170, 97, 97, 97, 97, 97, 92, 170], [], 0)
        self.check([255] + written(DEEDS), [], 0)

    def test_a_sum_over_255(self):
        self.check([2, 2, 255, 257, 170], [], 0)
        self.check([2, 2, 255, 1, 170], [("move", 255)], 5)

    def test_random_rows(self):
        rng = random.Random(122)
        for _ in range(200):
            deeds = [random_deed(rng) for _ in range(rng.randint(0, 6))]
            octets = written(deeds)
            self.check(octets, deeds, len(octets))
            self.check(octets + [0] + octets, deeds, len(octets))

    def test_what_is_returned_is_new(self):
        octets = written(DEEDS)
        recovered(octets)[0].clear()
        self.assertEqual(recovered(octets), (DEEDS, len(octets)))


if __name__ == "__main__":
    unittest.main()
