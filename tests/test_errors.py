import unittest

from helmsum import errors
from helmsum.errors import (
    NoFit, NoName, NoNumber, NoText, NoThing, NotSeen, NotSteered, SumError, Taken, TooMany, Wrong,
)

REFUSALS = [Wrong, NoThing, TooMany, NoNumber, NoFit, NotSteered, NotSeen, NoText, NoName, Taken]


class Places(unittest.TestCase):
    def test_the_head_stands_straight_under_value_error(self):
        self.assertEqual(SumError.__bases__, (ValueError,))

    def test_each_refusal_stands_straight_under_the_head_and_under_no_other(self):
        for refusal in REFUSALS:
            with self.subTest(refusal=refusal):
                self.assertEqual(refusal.__bases__, (SumError,))
                for other in REFUSALS:
                    self.assertEqual(issubclass(refusal, other), refusal is other)

    def test_there_are_eleven_classes_under_their_names(self):
        names = "SumError Wrong NoThing TooMany NoNumber NoFit NotSteered NotSeen NoText NoName Taken".split()
        self.assertEqual([getattr(errors, name).__name__ for name in names], names)
        found = [thing for thing in vars(errors).values() if isinstance(thing, type)]
        self.assertEqual(len(found), 11)


class Fields(unittest.TestCase):
    def test_whole_numbers(self):
        for whole in [0, 1, 8, -5, 10 ** 70]:
            self.assertEqual(Wrong(whole).at, whole)
            self.assertEqual(NoThing(whole).at, whole)
            self.assertEqual(TooMany(whole).most, whole)

    def test_rows(self):
        for row in [[], [(0, 1)], [(1, 2), (-3, 1)]]:
            self.assertEqual(NotSteered(row).price, row)
            self.assertEqual(NotSeen(row).state, row)

    def test_names(self):
        for name in ["", "a", "abcdefgh"]:
            self.assertEqual(NoName(name).name, name)
            self.assertEqual(Taken(name).name, name)

    def test_those_without_a_field_are_made_of_nothing(self):
        for refusal in [NoNumber, NoFit, NoText]:
            self.assertIsInstance(refusal(), SumError)

    def test_each_can_be_raised_and_taken_as_the_head_and_as_value_error(self):
        made = [
            Wrong(1), NoThing(2), TooMany(3), NoNumber(), NoFit(), NotSteered([(1, 1)]), NotSeen([]), NoText(),
            NoName("a"), Taken("b"),
        ]
        for refusal in made:
            with self.assertRaises(SumError) as taken:
                raise refusal
            self.assertIs(taken.exception, refusal)
            with self.assertRaises(ValueError):
                raise refusal


if __name__ == "__main__":
    unittest.main()
