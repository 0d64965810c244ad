"""The errors of the interface: their fields and their kinds."""

import unittest

from movedyears.errors import (
    Endless, LineError, MovedyearsError, NoCarry, NoSuchYear, PowerCut,
    ShutError, TooManyStates, UnknownFact, UnlikeFacts,
)

MADE = [
    LineError(3), UnknownFact("work"), NoSuchYear(7), PowerCut(12), NoCarry(1, 2),
    UnlikeFacts(), Endless(), TooManyStates(), ShutError(),
]


class Fields(unittest.TestCase):
    def test_fields(self):
        self.assertEqual(LineError(3).line, 3)
        self.assertEqual(UnknownFact("work").fact, "work")
        self.assertEqual(NoSuchYear(7).year, 7)
        self.assertEqual(PowerCut(0).written, 0)
        self.assertEqual(NoCarry(1, 2).scheme, 1)
        self.assertEqual(NoCarry(1, 2).other, 2)

    def test_fields_by_the_names_of_the_interface(self):
        self.assertEqual(LineError(line=3).line, 3)
        self.assertEqual(UnknownFact(fact="work").fact, "work")
        self.assertEqual(NoSuchYear(year=-1).year, -1)
        self.assertEqual(PowerCut(written=5).written, 5)
        error = NoCarry(other=2, scheme=1)
        self.assertEqual((error.scheme, error.other), (1, 2))

    def test_fields_are_those_of_the_interface_only(self):
        fields = [["line"], ["fact"], ["year"], ["written"], ["other", "scheme"], [], [], [], []]
        self.assertEqual([sorted(vars(error)) for error in MADE], fields)

    def test_each_has_a_message(self):
        for error in MADE:
            self.assertNotEqual(str(error), "")


class Kinds(unittest.TestCase):
    def test_each_is_a_movedyears_error_and_a_value_error(self):
        for error in MADE:
            self.assertIsInstance(error, MovedyearsError)
            self.assertIsInstance(error, ValueError)
        self.assertIsInstance(MovedyearsError(), ValueError)

    def test_none_is_of_another_kind(self):
        for error in MADE:
            for other in MADE:
                self.assertEqual(isinstance(error, type(other)), type(error) is type(other))

    def test_none_is_an_error_of_another_kind_of_pythons(self):
        for error in MADE:
            kinds = [kind for kind in type(error).__mro__ if kind.__module__ == "builtins"]
            self.assertEqual(kinds, [ValueError, Exception, BaseException, object])

    def test_each_is_raised_and_caught_as_what_it_is(self):
        for error in MADE:
            with self.assertRaises(type(error)) as caught:
                raise error
            self.assertIs(caught.exception, error)


if __name__ == "__main__":
    unittest.main()
