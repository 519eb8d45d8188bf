import random
import unittest

from helmsum.grids import grid_on, grid_times, grid_turned, unit_grid

from helping import check_grid, check_row, dot, row_of, some_grid, some_row, told, told_as

GREAT = 10 ** 6


class OnARow(unittest.TestCase):
    def test_by_hand(self):
        grid = [row_of(1, 2, 3), [(1, 2), (0, 1), (-1, 3)]]
        self.assertEqual(told(self, grid_on, grid, row_of(1, 1, 2)), [(9, 1), (-1, 6)])

    def test_without_rows_and_without_width(self):
        self.assertEqual(told(self, grid_on, [], row_of(1, 2)), [])
        self.assertEqual(told(self, grid_on, [], []), [])
        self.assertEqual(told(self, grid_on, [[], [], []], []), row_of(0, 0, 0))

    def test_up_to_twelve_rows(self):
        chance = random.Random(1)
        for many in range(13):
            for wide in [0, 1, 2, 5, 12]:
                grid = some_grid(chance, many, wide, GREAT)
                row = some_row(chance, wide, GREAT)
                answer = told(self, grid_on, grid, row)
                check_row(self, answer, many)
                self.assertEqual(answer, [told_as(dot(line, row)) for line in grid])


class Product(unittest.TestCase):
    def test_by_hand(self):
        one = [row_of(1, 2), row_of(0, -1), row_of(3, 0)]
        other = [[(1, 2), (1, 1)], [(1, 4), (0, 1)]]
        expected = [[(1, 1), (1, 1)], [(-1, 4), (0, 1)], [(3, 2), (3, 1)]]
        self.assertEqual(told(self, grid_times, one, other, 2), expected)

    def test_the_other_without_rows(self):
        self.assertEqual(told(self, grid_times, [[], []], [], 3), [row_of(0, 0, 0), row_of(0, 0, 0)])
        self.assertEqual(told(self, grid_times, [[], []], [], 0), [[], []])
        self.assertEqual(told(self, grid_times, [], [], 3), [])

    def test_the_one_without_rows_and_a_width_of_nought(self):
        self.assertEqual(told(self, grid_times, [], [row_of(1, 2)], 2), [])
        self.assertEqual(told(self, grid_times, [row_of(1), row_of(2)], [[]], 0), [[], []])

    def test_up_to_twelve_rows(self):
        chance = random.Random(2)
        for many, inner, wide in [(1, 1, 1), (2, 3, 4), (4, 3, 2), (12, 1, 12), (1, 12, 1), (12, 12, 12), (5, 12, 7)]:
            one = some_grid(chance, many, inner, GREAT)
            other = some_grid(chance, inner, wide, GREAT)
            answer = told(self, grid_times, one, other, wide)
            check_grid(self, answer, many, wide)
            for i in range(many):
                for j in range(wide):
                    column = [line[j] for line in other]
                    self.assertEqual(answer[i][j], told_as(dot(one[i], column)))

    def test_a_grid_by_itself_and_by_the_unit_grid(self):
        grid = [row_of(1, 2), row_of(3, 4)]
        self.assertEqual(told(self, grid_times, grid, grid, 2), [row_of(7, 10), row_of(15, 22)])
        self.assertEqual(told(self, grid_times, grid, unit_grid(2), 2), grid)
        self.assertEqual(told(self, grid_times, unit_grid(2), grid, 2), grid)


class Turned(unittest.TestCase):
    def test_by_hand(self):
        self.assertEqual(told(self, grid_turned, [row_of(1, 2, 3), row_of(4, 5, 6)], 3),
                         [row_of(1, 4), row_of(2, 5), row_of(3, 6)])

    def test_without_rows(self):
        self.assertEqual(told(self, grid_turned, [], 3), [[], [], []])
        self.assertEqual(told(self, grid_turned, [], 0), [])

    def test_a_width_of_nought(self):
        self.assertEqual(told(self, grid_turned, [[], []], 0), [])

    def test_up_to_twelve_rows(self):
        chance = random.Random(3)
        for many in range(13):
            for wide in [0, 1, 3, 12]:
                grid = some_grid(chance, many, wide, GREAT)
                answer = told(self, grid_turned, grid, wide)
                check_grid(self, answer, wide, many)
                for i in range(many):
                    for j in range(wide):
                        self.assertEqual(answer[j][i], grid[i][j])
                self.assertEqual(grid_turned(answer, many), grid)

    def test_a_grid_with_one_row_twice(self):
        row = row_of(1, 2)
        self.assertEqual(told(self, grid_turned, [row, row], 2), [row_of(1, 1), row_of(2, 2)])


class UnitGrid(unittest.TestCase):
    def test_up_to_twelve_rows(self):
        self.assertEqual(told(self, unit_grid, 0), [])
        for many in range(13):
            answer = told(self, unit_grid, many)
            check_grid(self, answer, many, many)
            for i in range(many):
                for j in range(many):
                    self.assertEqual(answer[i][j], (int(i == j), 1))


if __name__ == "__main__":
    unittest.main()
