"""Points 42 and 43."""

import itertools

from scanpages.errors import InvalidPage
from scanpages.turns import combined, opposite, turned, turning_distance
from tests.paper import slow_empty_page, slow_turned
from tests.support import ProgramTest

NO_TURNS = (-1, 8, 9, -8, 10 ** 20, -10 ** 5000)


def square(size):
    """A square in which no two items are equal."""
    return [[row * size + column for column in range(size)] for row in range(size)]


class TurnedTest(ProgramTest):

    def test_example(self):
        self.assertEqual([[3, 1], [4, 2]], self.pure(turned, [[1, 2], [3, 4]], 1))
        self.assertEqual([[2, 1], [4, 3]], self.pure(turned, [[1, 2], [3, 4]], 4))

    def test_all_turns_of_two_rows(self):
        for turn, expected in enumerate((
            [[1, 2], [3, 4]], [[3, 1], [4, 2]], [[4, 3], [2, 1]], [[2, 4], [1, 3]],
            [[2, 1], [4, 3]], [[4, 2], [3, 1]], [[3, 4], [1, 2]], [[1, 3], [2, 4]],
        )):
            self.assertEqual(expected, self.pure(turned, [[1, 2], [3, 4]], turn))

    def test_the_words_of_the_document(self):
        for size, turn in itertools.product(range(6), range(8)):
            self.assertEqual(slow_turned(square(size), turn), self.pure(turned, square(size), turn))

    def test_rows_are_new(self):
        for size, turn in itertools.product((1, 3), range(8)):
            rows = square(size)
            found = turned(rows, turn)
            for row in found:
                row.append(99)
            self.assertEqual(square(size), rows)
            self.assertEqual(size, len({id(row) for row in found}))

    def test_wrong_turns(self):
        for size, turn in itertools.product(range(4), NO_TURNS):
            self.raised(InvalidPage, turned, square(size), turn)

    def test_no_squares(self):
        for rows in ([[]], [[1, 2]], [[1], [2]], [[1, 2], [3]], [[1, 2], [3, 4, 5]], [[1, 2, 3], [4, 5, 6]], [[], []],
                     [[1, 2], [3, 4], [5, 6]]):
            for turn in (*range(8), *NO_TURNS):
                self.raised(InvalidPage, turned, rows, turn)


class CombinationTest(ProgramTest):

    def test_example(self):
        self.assertEqual((5, 3), (combined(4, 1), opposite(1)))

    def test_opposites(self):
        for turn in range(8):
            self.assertIn(opposite(turn), range(8))
            for size in range(5):
                self.assertEqual(square(size), turned(turned(square(size), turn), opposite(turn)))
                self.assertEqual(square(size), turned(turned(square(size), opposite(turn)), turn))

    def test_combinations(self):
        for first, second in itertools.product(range(8), repeat=2):
            self.assertIn(combined(first, second), range(8))
            for size in range(5):
                expected = slow_turned(slow_turned(square(size), first), second)
                self.assertEqual(expected, turned(square(size), combined(first, second)))

    def test_wrong_turns(self):
        for wrong in NO_TURNS:
            self.raised(InvalidPage, opposite, wrong)
            for turn in range(8):
                self.raised(InvalidPage, combined, wrong, turn)
                self.raised(InvalidPage, combined, turn, wrong)
            self.raised(InvalidPage, combined, wrong, wrong)


class DistanceTest(ProgramTest):

    def test_all_sides(self):
        for side in range(16, 41):
            marks = [slow_turned(slow_empty_page(side), turn) for turn in range(8)]
            ring = [(row, column) for row in range(1, side - 1) for column in range(1, side - 1)
                    if 1 in (row, column) or side - 2 in (row, column)]
            distances = [sum(first[row][column] != second[row][column] for row, column in ring)
                         for first, second in itertools.combinations(marks, 2)]
            self.assertEqual(min(distances), turning_distance(side))

    def test_some_sides(self):
        self.assertEqual([12, 12, 14, 14, 36], [turning_distance(side) for side in (16, 17, 18, 19, 40)])
