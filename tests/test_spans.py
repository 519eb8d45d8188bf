import random
import unittest

from helmsum.rows import row_plus, row_times
from helmsum.spans import free_places, leading, reduced

from helping import (
    added_up, check_grid, reduced_by_fractions, row_of, some_grid, some_number, some_row, told,
)

GREAT = 10 ** 6
SIZES = [(1, 1), (1, 12), (2, 3), (3, 3), (5, 5), (6, 1), (6, 6), (6, 12), (13, 1), (13, 2), (13, 5)]


def bound_rows(chance, many, wide, rank, most):
    """So many rows of this width that are all sums of at most rank rows."""
    basis = some_grid(chance, rank, wide, most)
    return [added_up(basis, some_row(chance, rank, 9), wide) for turn in range(many)]


class Reduced(unittest.TestCase):
    def check(self, rows, wide):
        answer = told(self, reduced, rows, wide)
        check_grid(self, answer, len(answer), wide)
        self.assertEqual(answer, reduced_by_fractions(rows, wide))
        self.check_places(answer, wide)
        self.assertEqual(told(self, reduced, answer, wide), answer)
        return answer

    def check_places(self, rows, wide):
        leads = told(self, leading, rows)
        self.assertEqual(leads, sorted(set(leads)))
        for number, row in enumerate(rows):
            self.assertTrue(all(row[place] == (0, 1) for place in range(leads[number])))
            self.assertEqual([other[leads[number]] for other in rows],
                             [(int(other == number), 1) for other in range(len(rows))])
        self.assertEqual(told(self, free_places, rows, wide), [place for place in range(wide) if place not in leads])

    def test_by_hand(self):
        rows = [row_of(0, 2, 4, 0), row_of(3, 3, 6, 3), row_of(1, 2, 4, 1), row_of(0, 0, 0, 0)]
        self.assertEqual(self.check(rows, 4), [row_of(1, 0, 0, 1), row_of(0, 1, 2, 0)])
        self.assertEqual(leading(reduced(rows, 4)), [0, 1])
        self.assertEqual(free_places(reduced(rows, 4), 4), [2, 3])
        self.assertEqual(self.check([[(0, 1), (-2, 3), (1, 2)]], 3), [[(0, 1), (1, 1), (-3, 4)]])

    def test_no_rows(self):
        for wide in [0, 1, 5]:
            self.assertEqual(self.check([], wide), [])
        self.assertEqual(told(self, leading, []), [])
        self.assertEqual(told(self, free_places, [], 3), [0, 1, 2])
        self.assertEqual(told(self, free_places, [], 0), [])

    def test_a_width_of_nought(self):
        self.assertEqual(self.check([[], [], []], 0), [])

    def test_nought_rows(self):
        self.assertEqual(self.check([row_of(0, 0), row_of(0, 0)], 2), [])
        self.assertEqual(self.check([row_of(0, 0), row_of(0, -7), row_of(0, 0)], 2), [row_of(0, 1)])

    def test_the_greatest_sizes_and_numbers(self):
        chance = random.Random(1)
        for many, wide in SIZES:
            for most in [1, 3, GREAT]:
                self.check(some_grid(chance, many, wide, most), wide)

    def test_full_of_great_fractions(self):
        chance = random.Random(2)
        for many, wide in [(6, 12), (6, 6), (13, 5)]:
            rows = [[(chance.randrange(1, GREAT, 2), 2 ** chance.randrange(20)) for place in range(wide)]
                    for turn in range(many)]
            self.assertEqual(len(self.check(rows, wide)), min(many, wide))

    def test_rows_that_are_sums_of_others(self):
        chance = random.Random(3)
        for many, wide in [(6, 12), (6, 6), (13, 5)]:
            for rank in range(5):
                rows = bound_rows(chance, many, wide, rank, 1000)
                self.assertLessEqual(len(self.check(rows, wide)), rank)

    def test_the_same_span_has_the_same_list(self):
        chance = random.Random(4)
        for many, wide in [(3, 5), (6, 12), (6, 6), (10, 5)]:
            rows = some_grid(chance, many, wide, 50)
            answer = self.check(rows, wide)
            other_order = list(rows)
            chance.shuffle(other_order)
            self.assertEqual(self.check(other_order, wide), answer)
            stretched = [row_times((chance.randrange(1, 9), 7), row) for row in rows]
            self.assertEqual(self.check(stretched, wide), answer)
            more = rows + [row_plus(rows[0], row_times(some_number(chance, 9), rows[1])), rows[2]]
            self.assertEqual(self.check(more, wide), answer)
            self.assertEqual(self.check(answer + rows, wide), answer)

    def test_one_row_many_times(self):
        row = row_of(0, 2, -4)
        self.assertEqual(self.check([row, row, row], 3), [row_of(0, 1, -2)])


if __name__ == "__main__":
    unittest.main()
