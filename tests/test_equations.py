import random
import unittest

from helmsum.equations import inverse, nulls, solve, weights_for
from helmsum.grids import grid_times, unit_grid
from helmsum.spans import free_places, reduced

from helping import (
    added_up, check_grid, check_row, dot, in_span, reduced_by_fractions, row_as, row_of, some_grid, some_row, told,
)

GREAT = 10 ** 6
SIZES = [(1, 1), (1, 12), (2, 3), (3, 2), (3, 3), (6, 2), (6, 6), (6, 12), (13, 1), (13, 3), (13, 5)]


def some_rows(chance, many, wide, most):
    """Rows of which some are sums of others as often as not."""
    rows = some_grid(chance, many, wide, most)
    if chance.randrange(2) and many > 1:
        rows[-1] = added_up(rows[:-1], some_row(chance, many - 1, 5), wide)
    if chance.randrange(4) == 0:
        rows[0] = row_of(*[0] * wide)
    return rows


class Solve(unittest.TestCase):
    def check(self, rows, wide, due):
        answer = told(self, solve, rows, wide, due)
        self.assertIs(type(answer), tuple)
        self.assertEqual(len(answer), 2)
        columns = [[row[place] for row in rows] for place in range(wide)]
        if in_span(columns, len(rows), due):
            self.assertEqual(answer[0], "yes")
            check_row(self, answer[1], wide)
            self.assertEqual(row_as([dot(row, answer[1]) for row in rows]), due)
            for place in free_places(reduced(rows, wide), wide):
                self.assertEqual(answer[1][place], (0, 1))
        else:
            self.assertEqual(answer[0], "no")
            check_row(self, answer[1], len(rows))
            self.assertEqual(added_up(rows, answer[1], wide), row_of(*[0] * wide))
            self.assertEqual(dot(answer[1], due), 1)
        return answer

    def test_by_hand(self):
        rows = [row_of(1, 1, 1), row_of(0, 2, 4)]
        self.assertEqual(self.check(rows, 3, row_of(3, 2)), ("yes", row_of(2, 1, 0)))
        self.assertEqual(self.check([row_of(0, 3)], 2, row_of(1)), ("yes", [(0, 1), (1, 3)]))
        self.assertEqual(self.check([row_of(0, 0)], 2, row_of(-4)), ("no", [(-1, 4)]))
        self.assertEqual(self.check([row_of(1, 2), row_of(2, 4)], 2, row_of(1, 2)), ("yes", row_of(1, 0)))
        self.assertEqual(self.check([row_of(1, 2), row_of(2, 4)], 2, row_of(1, 3)), ("no", row_of(-2, 1)))

    def test_no_rows(self):
        for wide in [0, 1, 4]:
            self.assertEqual(self.check([], wide, []), ("yes", row_of(*[0] * wide)))

    def test_a_width_of_nought(self):
        self.assertEqual(self.check([[], []], 0, row_of(0, 0)), ("yes", []))
        self.assertEqual(self.check([[], []], 0, row_of(0, 3))[0], "no")

    def test_the_greatest_sizes_and_numbers(self):
        chance = random.Random(1)
        told_words = []
        for many, wide in SIZES:
            for most in [2, 30, GREAT]:
                for turn in range(3):
                    rows = some_rows(chance, many, wide, most)
                    told_words.append(self.check(rows, wide, some_row(chance, many, most))[0])
                    made = some_row(chance, wide, 1000)
                    due = row_as([dot(row, made) for row in rows])
                    self.assertEqual(self.check(rows, wide, due)[0], "yes")
        self.assertEqual(set(told_words), {"yes", "no"})


class Nulls(unittest.TestCase):
    def check(self, rows, wide):
        answer = told(self, nulls, rows, wide)
        basis = reduced(rows, wide)
        free = free_places(basis, wide)
        check_grid(self, answer, len(free), wide)
        self.assertEqual(len(answer) + len(basis), wide)
        for at, null in zip(free, answer):
            self.assertEqual([null[place] for place in free], row_of(*[int(place == at) for place in free]))
            self.assertEqual([dot(row, null) for row in rows], [0] * len(rows))
        return answer

    def test_by_hand(self):
        rows = [row_of(2, 0, 4, 1), row_of(0, 3, 3, 0)]
        self.assertEqual(self.check(rows, 4), [row_of(-2, -1, 1, 0), [(-1, 2), (0, 1), (0, 1), (1, 1)]])

    def test_edges(self):
        for wide in range(5):
            self.assertEqual(self.check([], wide), unit_grid(wide))
            self.assertEqual(self.check([row_of(*[0] * wide)], wide), unit_grid(wide))
            self.assertEqual(self.check(unit_grid(wide), wide), [])
        self.assertEqual(self.check([[], []], 0), [])

    def test_the_greatest_sizes_and_numbers(self):
        chance = random.Random(2)
        for many, wide in SIZES:
            for most in [2, 30, GREAT]:
                self.check(some_rows(chance, many, wide, most), wide)

    def test_their_span_is_what_has_the_dot_nought_with_each_row(self):
        chance = random.Random(3)
        for many, wide in [(2, 4), (3, 5), (6, 12)]:
            rows = some_rows(chance, many, wide, 20)
            found = nulls(rows, wide)
            inside = added_up(found, some_row(chance, len(found), 9), wide)
            self.assertEqual([dot(row, inside) for row in rows], [0] * many)
            self.assertEqual(weights_for(found, wide, inside)[0], "in")
            outside = next(row for row in rows if row != row_of(*[0] * wide))
            self.assertEqual(weights_for(found, wide, outside)[0], "out")
            self.assertEqual(reduced(nulls(found, wide), wide), reduced(rows, wide))


class WeightsFor(unittest.TestCase):
    def check(self, rows, wide, row):
        answer = told(self, weights_for, rows, wide, row)
        self.assertIs(type(answer), tuple)
        self.assertEqual(len(answer), 2)
        if in_span(rows, wide, row):
            self.assertEqual(answer[0], "in")
            check_row(self, answer[1], len(rows))
            self.assertEqual(added_up(rows, answer[1], wide), row)
        else:
            self.assertEqual(answer[0], "out")
            check_row(self, answer[1], wide)
            self.assertEqual([dot(line, answer[1]) for line in rows], [0] * len(rows))
            self.assertEqual(dot(answer[1], row), 1)
        return answer

    def test_by_hand(self):
        rows = [row_of(1, 0, 1), row_of(0, 2, 0)]
        self.assertEqual(self.check(rows, 3, row_of(3, 1, 3)), ("in", [(3, 1), (1, 2)]))
        self.assertEqual(self.check(rows, 3, row_of(3, 1, 2))[0], "out")
        self.assertEqual(self.check([row_of(0, 1)], 2, row_of(-2, 5)), ("out", [(-1, 2), (0, 1)]))

    def test_no_rows(self):
        for wide in range(4):
            self.assertEqual(self.check([], wide, row_of(*[0] * wide)), ("in", []))
        self.assertEqual(self.check([], 2, row_of(0, 5)), ("out", [(0, 1), (1, 5)]))

    def test_a_width_of_nought(self):
        answer = self.check([[], []], 0, [])
        self.assertEqual(answer[0], "in")

    def test_a_row_of_the_list_itself(self):
        rows = [row_of(1, 2), row_of(3, 4)]
        self.assertEqual(self.check(rows, 2, rows[1]), ("in", row_of(0, 1)))

    def test_the_greatest_sizes_and_numbers(self):
        chance = random.Random(4)
        told_words = []
        for many, wide in SIZES:
            for most in [2, 30, GREAT]:
                for turn in range(3):
                    rows = some_rows(chance, many, wide, most)
                    told_words.append(self.check(rows, wide, some_row(chance, wide, most))[0])
                    inside = added_up(rows, some_row(chance, many, 1000), wide)
                    self.assertEqual(self.check(rows, wide, inside)[0], "in")
        self.assertEqual(set(told_words), {"in", "out"})


class Inverse(unittest.TestCase):
    def check(self, grid):
        many = len(grid)
        answer = told(self, inverse, grid)
        if len(reduced_by_fractions(grid, many)) < many:
            self.assertIsNone(answer)
        else:
            check_grid(self, answer, many, many)
            self.assertEqual(grid_times(grid, answer, many), unit_grid(many))
            self.assertEqual(grid_times(answer, grid, many), unit_grid(many))
        return answer

    def test_by_hand(self):
        self.assertEqual(self.check([row_of(1, 2), row_of(3, 4)]), [row_of(-2, 1), [(3, 2), (-1, 2)]])
        self.assertEqual(self.check([[(-2, 3)]]), [[(-3, 2)]])
        self.assertEqual(self.check([row_of(0, 1), row_of(1, 0)]), [row_of(0, 1), row_of(1, 0)])

    def test_the_grid_without_rows(self):
        self.assertEqual(self.check([]), [])

    def test_none(self):
        self.assertIsNone(self.check([row_of(0)]))
        self.assertIsNone(self.check([row_of(1, 2), row_of(2, 4)]))
        self.assertIsNone(self.check([row_of(0, 1), row_of(0, 0)]))
        self.assertIsNone(self.check([row_of(0, 0), row_of(1, 0)]))
        self.assertIsNone(self.check([row_of(1, 2, 3), row_of(4, 5, 6), row_of(7, 8, 9)]))

    def test_up_to_six_rows(self):
        chance = random.Random(5)
        for many in range(1, 7):
            for most in [1, 2, 30, GREAT]:
                for turn in range(3):
                    self.check(some_grid(chance, many, many, most))
                    self.check(some_rows(chance, many, many, most))
            self.assertEqual(self.check(unit_grid(many)), unit_grid(many))


if __name__ == "__main__":
    unittest.main()
