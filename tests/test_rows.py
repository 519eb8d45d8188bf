import random
import unittest

from helmsum.rows import is_nought, is_row, nought_row, row_dot, row_minus, row_plus, row_times, unit_row

from helping import (
    NO_NUMBERS, STRANGE, check_number, check_row, dot, row_as, row_of, some_number, some_row, told, told_as, value,
    values,
)

LONG = 10 ** 60


class RowOfItsOwn(list):
    pass


class WhatIsARow(unittest.TestCase):
    def test_rows(self):
        chance = random.Random(1)
        for many in range(50):
            self.assertIs(told(self, is_row, some_row(chance, many, LONG), many), True)
        self.assertIs(is_row(RowOfItsOwn([(1, 2)]), 1), True)

    def test_another_length(self):
        self.assertIs(is_row([], 1), False)
        self.assertIs(is_row(row_of(1), 0), False)
        self.assertIs(is_row(row_of(1, 2, 3), 2), False)
        self.assertIs(is_row(row_of(1, 2, 3), 4), False)

    def test_tuples(self):
        self.assertIs(is_row((), 0), False)
        self.assertIs(is_row(((1, 1), (2, 1)), 2), False)

    def test_whatever_is_handed_in(self):
        for thing in STRANGE:
            for many in range(4):
                expected = many == 0 and thing == [] or many == 1 and thing == [(1, 1)]
                self.assertIs(is_row(thing, many), expected, repr(thing))

    def test_a_strange_thing_at_some_place(self):
        for many in [1, 2, 7, 49]:
            for at in {0, many // 2, many - 1}:
                for thing in NO_NUMBERS:
                    row = row_of(*range(many))
                    row[at] = thing
                    self.assertIs(is_row(row, many), False, repr(thing))

    def test_a_list_within_itself(self):
        row = []
        row.append(row)
        self.assertIs(is_row(row, 1), False)


class Sums(unittest.TestCase):
    def test_by_hand(self):
        one = [(1, 2), (-1, 3), (0, 1)]
        other = [(1, 2), (1, 3), (5, 1)]
        self.assertEqual(row_plus(one, other), [(1, 1), (0, 1), (5, 1)])
        self.assertEqual(row_minus(one, other), [(0, 1), (-2, 3), (-5, 1)])
        self.assertEqual(row_times((-2, 3), one), [(-1, 3), (2, 9), (0, 1)])
        self.assertEqual(row_dot(one, other), (5, 36))

    def test_without_numbers(self):
        self.assertEqual(told(self, row_plus, [], []), [])
        self.assertEqual(told(self, row_minus, [], []), [])
        self.assertEqual(told(self, row_times, (5, 1), []), [])
        self.assertEqual(told(self, row_dot, [], []), (0, 1))

    def test_up_to_49_long_numbers(self):
        chance = random.Random(2)
        for many in list(range(9)) + [20, 48, 49]:
            one = some_row(chance, many, LONG)
            other = some_row(chance, many, LONG)
            by = some_number(chance, LONG)
            pairs = list(zip(values(one), values(other)))
            self.check(told(self, row_plus, one, other), [mine + yours for mine, yours in pairs])
            self.check(told(self, row_minus, one, other), [mine - yours for mine, yours in pairs])
            self.check(told(self, row_times, by, one), [value(by) * mine for mine in values(one)])
            sum_of_products = told(self, row_dot, one, other)
            check_number(self, sum_of_products)
            self.assertEqual(sum_of_products, told_as(dot(one, other)))

    def check(self, row, expected):
        check_row(self, row, len(expected))
        self.assertEqual(row, row_as(expected))

    def test_a_row_with_itself(self):
        row = [(1, 2), (-3, 1)]
        self.assertEqual(told(self, row_plus, row, row), [(1, 1), (-6, 1)])
        self.assertEqual(told(self, row_minus, row, row), [(0, 1), (0, 1)])
        self.assertEqual(told(self, row_dot, row, row), (37, 4))

    def test_times_nought_and_one(self):
        row = [(1, 2), (-3, 1)]
        self.assertEqual(told(self, row_times, (0, 1), row), [(0, 1), (0, 1)])
        self.assertEqual(told(self, row_times, (1, 1), row), row)


class MadeRows(unittest.TestCase):
    def test_nought_rows(self):
        self.assertEqual(told(self, nought_row, 0), [])
        for many in range(50):
            row = told(self, nought_row, many)
            check_row(self, row, many)
            self.assertEqual(row, row_of(*[0] * many))

    def test_unit_rows(self):
        for many in range(1, 50):
            for at in range(many):
                row = told(self, unit_row, many, at)
                check_row(self, row, many)
                self.assertEqual(row, row_of(*[int(place == at) for place in range(many)]))

    def test_is_nought(self):
        self.assertIs(told(self, is_nought, []), True)
        for many in range(1, 50):
            self.assertIs(told(self, is_nought, row_of(*[0] * many)), True)
            for at in {0, many // 2, many - 1}:
                row = row_of(*[0] * many)
                row[at] = (-1, LONG)
                self.assertIs(told(self, is_nought, row), False)


if __name__ == "__main__":
    unittest.main()
