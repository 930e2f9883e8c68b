"""Point 33."""

import itertools
import random

from scanpages.field import add, multiply
from scanpages.linear import rank, solve_system
from tests.support import ProgramTest


def left_side(row, unknowns):
    """The sum of the products of the coefficients and the unknowns."""
    total = 0
    for coefficient, unknown in zip(row, unknowns, strict=True):
        total = add(total, multiply(coefficient, unknown))
    return total


def is_solution(rows, right, unknowns):
    """Whether a list has a symbol for each unknown, by which each equation holds."""
    return (isinstance(unknowns, list) and all(symbol in range(16) for symbol in unknowns)
            and all(left_side(row, unknowns) == value for row, value in zip(rows, right, strict=True)))


def span_size(rows):
    """The number of the different sums of products of symbols with the rows."""
    columns = list(zip(*rows))
    return len({tuple(left_side(column, factors) for column in columns)
                for factors in itertools.product(range(16), repeat=len(rows))})


def combination(rows, factors):
    """The sum of the products of symbols with the rows."""
    return [left_side(column, factors) for column in zip(*rows)]


def random_rows(chance, count, width):
    """Rows of symbols of which many are 0, so that some of the rows depend on others."""
    return [[chance.choice((0, chance.randrange(16))) for _ in range(width)] for _ in range(count)]


class SystemTest(ProgramTest):

    def check_solved(self, rows, right):
        """Solves a system that has a solution, and returns it."""
        found = self.pure(solve_system, rows, right)
        self.assertIsNotNone(found)
        self.assertTrue(is_solution(rows, right, found), (rows, right, found))
        return found

    def test_no_equation(self):
        self.assertEqual([], self.pure(solve_system, [], []))

    def test_one_equation(self):
        self.assertEqual([1], self.check_solved([[9]], [9]))
        self.assertEqual([2], self.check_solved([[9]], [1]))
        self.assertEqual([0], self.check_solved([[9]], [0]))
        self.assertEqual([0, 6], self.check_solved([[1, 0], [0, 7]], [0, multiply(7, 6)]))

    def test_no_unknown(self):
        self.assertEqual([], self.pure(solve_system, [[], []], [0, 0]))
        self.assertIsNone(self.pure(solve_system, [[], []], [0, 1]))

    def test_all_small_systems_of_two_unknowns(self):
        chance = random.Random(1)
        for _ in range(300):
            count = chance.randrange(1, 5)
            rows = random_rows(chance, count, 2)
            right = random_rows(chance, 1, count)[0]
            solutions = [pair for pair in itertools.product(range(16), repeat=2) if is_solution(rows, right, list(pair))]
            found = self.pure(solve_system, rows, right)
            if solutions:
                self.assertIn(tuple(found), solutions)
            else:
                self.assertIsNone(found)

    def test_systems_with_a_solution(self):
        chance = random.Random(2)
        for _ in range(300):
            rows = random_rows(chance, chance.randrange(1, 9), chance.randrange(1, 9))
            unknowns = [chance.randrange(16) for _ in rows[0]]
            right = [left_side(row, unknowns) for row in rows]
            self.assertEqual(len(unknowns), len(self.check_solved(rows, right)))

    def test_square_systems_with_exactly_one_solution(self):
        chance = random.Random(3)
        seen = 0
        for _ in range(100):
            rows = [[chance.randrange(16) for _ in range(4)] for _ in range(4)]
            unknowns = [chance.randrange(16) for _ in range(4)]
            right = [left_side(row, unknowns) for row in rows]
            if rank(rows) == 4:
                seen += 1
                self.assertEqual(unknowns, self.pure(solve_system, rows, right))
        self.assertGreater(seen, 50)

    def test_fewer_equations_than_unknowns(self):
        self.check_solved([[0, 0, 3, 5]], [7])
        self.check_solved([[0, 1, 0, 5], [0, 2, 0, 4]], [7, 8])

    def test_more_equations_than_unknowns(self):
        self.assertEqual([3, 4], self.check_solved([[1, 0], [0, 1], [1, 1]], [3, 4, 7]))
        self.assertIsNone(self.pure(solve_system, [[1, 0], [0, 1], [1, 1]], [3, 4, 6]))

    def test_repeated_equations(self):
        self.check_solved([[1, 2, 3], [1, 2, 3], [1, 2, 3]], [9, 9, 9])
        self.assertIsNone(self.pure(solve_system, [[1, 2, 3], [1, 2, 3]], [9, 8]))

    def test_sums_of_other_equations(self):
        rows = [[1, 2, 3], [4, 5, 6]]
        rows.append(combination(rows, [7, 9]))
        right = [10, 11]
        fitting = add(multiply(7, 10), multiply(9, 11))
        for last in range(16):
            for order in itertools.permutations(range(3)):
                ordered = [rows[at] for at in order]
                values = [(right + [last])[at] for at in order]
                if last == fitting:
                    self.check_solved(ordered, values)
                else:
                    self.assertIsNone(self.pure(solve_system, ordered, values))

    def test_equations_of_zeros(self):
        self.check_solved([[0, 0], [1, 2]], [0, 5])
        self.check_solved([[0, 0]], [0])
        for rows, right in (([[0, 0]], [1]), ([[0, 0], [1, 2]], [3, 5]), ([[1, 2], [0, 0]], [5, 3])):
            self.assertIsNone(self.pure(solve_system, rows, right))


class RankTest(ProgramTest):

    def test_edges(self):
        for rows, expected in (
            ([], 0), ([[]], 0), ([[], []], 0), ([[0]], 0), ([[0, 0], [0, 0]], 0), ([[7]], 1), ([[0, 7]], 1),
            ([[7], [7]], 1), ([[1, 2], [1, 2], [1, 2]], 1), ([[1, 2], [2, 4]], 1), ([[1, 2], [2, 5]], 2),
            ([[0, 1], [1, 0]], 2), ([[0, 0], [0, 1], [1, 0], [1, 1]], 2), ([[1, 0, 0], [0, 1, 0], [0, 0, 1]], 3),
        ):
            self.assertEqual(expected, self.pure(rank, rows), rows)

    def test_span(self):
        chance = random.Random(4)
        for _ in range(150):
            rows = random_rows(chance, chance.randrange(1, 4), chance.randrange(1, 5))
            self.assertEqual(16 ** self.pure(rank, rows), span_size(rows), rows)

    def test_sums_change_no_rank(self):
        chance = random.Random(5)
        for _ in range(100):
            rows = random_rows(chance, chance.randrange(1, 6), chance.randrange(1, 8))
            sums = [combination(rows, [chance.randrange(16) for _ in rows]) for _ in range(3)]
            self.assertEqual(rank(rows), self.pure(rank, rows + sums))
            self.assertEqual(rank(rows), rank(sums + rows))
            self.assertLessEqual(rank(sums), rank(rows))

    def test_rows_and_columns(self):
        chance = random.Random(6)
        for _ in range(100):
            rows = random_rows(chance, chance.randrange(1, 7), chance.randrange(1, 7))
            columns = [list(column) for column in zip(*rows)]
            self.assertEqual(rank(rows), rank(columns))
