"""Point 44, with point 42 for the turns."""

import itertools

from scanpages.beds import changed, check_bed, laid
from scanpages.errors import DoesNotFit, InvalidBed, InvalidPage
from scanpages.layout import empty_page
from tests.paper import FORMS, NO_CELLS, slow_turned, with_cells
from tests.support import ProgramTest

LENGTHS = (1, 2, 59, 60)
NO_LENGTHS = (0, -1, 61, 62, 10 ** 20, -10 ** 5000)
# A page for tests: no two turns of it are equal.
SMALL = [[1, 0, 2], [1, 1, 0], [0, 0, 0]]
NO_BEDS = ([], [[]], [[], []], [[0], []], [[0, 1], [0]], [[0], [0, 1]], [[0, 1], [0, 1], [0, 1, 2]], [[0, 1], [0, 1, 3]], [[0]] * 61,
           [[0] * 61], [[0] * 61 for _ in range(61)], [[0] * 60] * 61)


def white(height, width):
    """A white bed."""
    return [[0] * width for _ in range(height)]


class CheckTest(ProgramTest):

    def test_sizes(self):
        for height, width in itertools.product(LENGTHS, repeat=2):
            for cell in (0, 1, 2):
                self.assertEqual((height, width), self.pure(check_bed, [[cell] * width for _ in range(height)]))
        self.assertEqual((2, 3), self.pure(check_bed, [[0, 1, 2], [2, 1, 0]]))

    def test_no_beds(self):
        for bed in NO_BEDS:
            self.raised(InvalidBed, check_bed, bed)

    def test_no_cells(self):
        for height, width in itertools.product((1, 2, 60), repeat=2):
            for row, column, cell in itertools.product({0, height - 1}, {0, width // 2, width - 1}, NO_CELLS):
                self.raised(InvalidBed, check_bed, with_cells(white(height, width), [((row, column), cell)]))


class LaidTest(ProgramTest):

    def test_all_turns_and_places(self):
        for turn, row, column in itertools.product(range(8), range(3), range(4)):
            bed = self.pure(laid, SMALL, turn, 5, 6, row, column)
            expected = white(5, 6)
            for at, cells in enumerate(slow_turned(SMALL, turn)):
                expected[row + at][column:column + 3] = cells
            self.assertEqual(expected, bed)

    def test_pages(self):
        for form in FORMS:
            page = empty_page(form)
            bed = laid(page, 0, 60, form.side, 60 - form.side, 0)
            self.assertEqual(white(60 - form.side, form.side) + page, bed)

    def test_rows_are_not_shared(self):
        bed = laid(SMALL, 0, 60, 60, 0, 0)
        self.assertEqual(60, len({id(row) for row in bed}))

    def test_pages_that_do_not_fit(self):
        for height, width in ((3, 3), (5, 6), (60, 60)):
            for row, column in itertools.product((0, height - 3), (0, width - 3)):
                laid(SMALL, 1, height, width, row, column)
            for row in (-1, height - 2, height, -3, 10 ** 5000, -10 ** 5000):
                self.raised(DoesNotFit, laid, SMALL, 1, height, width, row, 0)
                self.raised(DoesNotFit, laid, SMALL, 1, height, width, row, width - 3)
            for column in (-1, width - 2, width, -3, 10 ** 5000, -10 ** 5000):
                self.raised(DoesNotFit, laid, SMALL, 1, height, width, 0, column)
                self.raised(DoesNotFit, laid, SMALL, 1, height, width, height - 3, column)
        for height, width in ((2, 3), (3, 2), (1, 1), (2, 60)):
            self.raised(DoesNotFit, laid, SMALL, 0, height, width, 0, 0)
        self.assertEqual([[0, 0], [0, 2]], laid([[2]], 0, 2, 2, 1, 1))
        for row, column in ((-1, 0), (0, -1), (2, 0), (0, 2)):
            self.raised(DoesNotFit, laid, [[2]], 0, 2, 2, row, column)

    def test_a_page_without_cells_fits_everywhere(self):
        for row, column in ((0, 0), (4, 5), (-7, 99)):
            self.assertEqual(white(4, 5), self.pure(laid, [], 3, 4, 5, row, column))

    def test_which_error_comes_first(self):
        for page, turn in (([[1, 0], [1]], 0), ([[1, 0]], 0), (SMALL, 8), (SMALL, -1)):
            for height, width, row in ((5, 5, 0), (0, 5, 0), (5, 61, 0), (5, 5, 9), (0, 0, -1)):
                self.raised(InvalidPage, laid, page, turn, height, width, row, 0)
        for wrong in NO_LENGTHS:
            for row, column in ((0, 0), (-1, 0), (0, 99)):
                self.raised(InvalidBed, laid, SMALL, 0, wrong, 5, row, column)
                self.raised(InvalidBed, laid, SMALL, 0, 5, wrong, row, column)
                self.raised(InvalidBed, laid, [], 0, wrong, wrong, row, column)


class ChangedTest(ProgramTest):

    def test_changes(self):
        bed = [[0, 1, 2], [2, 1, 0]]
        self.assertEqual(bed, self.pure(changed, bed, []))
        self.assertEqual([[0, 1, 0], [1, 1, 0]], self.pure(changed, bed, [(0, 2, 0), (1, 0, 1)]))
        self.assertEqual([[1, 1, 2], [2, 1, 2]], self.pure(changed, bed, [(0, 0, 1), (1, 2, 2)]))

    def test_the_same_cell_twice(self):
        self.assertEqual([[2]], self.pure(changed, [[0]], [(0, 0, 1), (0, 0, 2)]))
        self.assertEqual([[1]], self.pure(changed, [[0]], [(0, 0, 2), (0, 0, 1)]))

    def test_the_result_is_new(self):
        for changes in ([], [(0, 0, 1)]):
            bed = [[0, 1], [2, 1]]
            found = changed(bed, changes)
            found[1][1] = 7
            self.assertEqual([[0, 1], [2, 1]], bed)

    def test_wrong_changes(self):
        bed = [[0, 1, 2], [2, 1, 0]]
        for wrong in ((-1, 0, 0), (2, 0, 0), (0, -1, 0), (0, 3, 0), (10 ** 5000, 0, 0), (0, -10 ** 5000, 0), (2, 3, 0),
                      *((0, 0, cell) for cell in NO_CELLS)):
            for changes in ([wrong], [(0, 0, 1), wrong], [wrong, (0, 0, 1)]):
                self.raised(InvalidBed, changed, bed, changes)

    def test_no_beds(self):
        for bed in NO_BEDS:
            self.raised(InvalidBed, changed, bed, [])
            self.raised(InvalidBed, changed, bed, [(0, 0, 1)])
        self.raised(InvalidBed, changed, [[3]], [(0, 0, 1)])
