"""Points 36 to 39."""

import itertools

from scanpages.errors import InvalidPage, InvalidSymbol
from scanpages.formats import Format
from scanpages.layout import empty_page, place_cells, taken, written
from tests.paper import (FORMS, NO_CELLS, random_codewords, slow_empty_page, slow_page, slow_place, symbol_place,
                         with_cells)
from tests.support import ProgramTest


class EmptyPageTest(ProgramTest):

    def test_all_sides(self):
        for side in range(16, 41):
            for checks in (2, 4):
                self.assertEqual(slow_empty_page(side), self.pure(empty_page, Format(side, checks)))

    def test_marks_of_an_odd_and_an_even_side(self):
        for side, half in ((18, 9), (19, 9), (40, 20), (39, 19)):
            page = empty_page(Format(side, 2))
            self.assertEqual([1] * side, page[0])
            self.assertEqual([1] * side, page[1])
            self.assertEqual([1] * side, page[side - 1])
            self.assertEqual([1, 1] + [0] * (side - 3) + [1], page[half - 1])
            self.assertEqual([1] + [0] * (side - 2) + [1], page[half])
            self.assertEqual([1] + [0] * (side - 2) + [1], page[side - 2])

    def test_rows_are_not_shared(self):
        for page in (empty_page(FORMS[0]), written(FORMS[0], random_codewords(FORMS[0], 1))):
            self.assertEqual(16, len({id(row) for row in page}))


class PlacesTest(ProgramTest):

    def test_all_places(self):
        for form in FORMS:
            for place in range(form.codewords * 16):
                self.assertEqual(slow_place(form, place), self.pure(place_cells, form, place))

    def test_first_and_last_place(self):
        form = Format(20, 4)
        self.assertEqual([(2, 2), (2, 3), (2, 4), (2, 5)], place_cells(form, 0))
        self.assertEqual([(17, 14), (17, 15), (17, 16), (17, 17)], place_cells(form, 63))
        self.assertEqual([(2, 14), (2, 15), (2, 16), (3, 2)], place_cells(Format(19, 4), 3))

    def test_places_that_are_not_there(self):
        for form in FORMS:
            for place in (-1, -form.codewords * 16, form.codewords * 16, form.codewords * 16 + 1, 10 ** 5000):
                self.raised(InvalidSymbol, place_cells, form, place)

    def test_no_cell_belongs_to_two_places(self):
        for form in FORMS:
            cells = [cell for place in range(form.codewords * 16) for cell in place_cells(form, place)]
            self.assertEqual(len(cells), len(set(cells)))
            for cell in cells:
                self.assertTrue(all(2 <= number < form.side - 2 for number in cell))


class WrittenTest(ProgramTest):

    def test_the_words_of_the_document(self):
        for seed, form in enumerate(FORMS):
            codewords = random_codewords(form, seed)
            self.assertEqual(slow_page(form, codewords), self.pure(written, form, codewords))

    def test_cells_of_no_place_are_white(self):
        for side in (17, 18, 19, 21, 40):
            form = Format(side, 2)
            page = written(form, [[15] * 16 for _ in range(form.codewords)])
            field = [page[row][column] for row in range(2, side - 2) for column in range(2, side - 2)]
            self.assertEqual([1] * (64 * form.codewords) + [0] * (len(field) - 64 * form.codewords), field)

    def test_wrong_codewords(self):
        for form in FORMS[:5]:
            right = random_codewords(form, 2)
            written(form, right)
            for wrong in ([], right[:-1], right + [[0] * 16], [right[0][:15], *right[1:]], [[*right[0], 0], *right[1:]],
                          [*right[:-1], []], [*right[:-1], right[-1][:15]], [*right[:-1], [*right[-1], 0]]):
                self.raised(InvalidPage, written, form, wrong)
            for number, at, symbol in itertools.product((0, form.codewords - 1), (0, 8, 15), (-1, 16, 10 ** 5000)):
                wrong = [list(codeword) for codeword in right]
                wrong[number][at] = symbol
                self.raised(InvalidPage, written, form, wrong)


class TakenTest(ProgramTest):

    def test_there_and_back(self):
        for seed, form in enumerate(FORMS):
            codewords = random_codewords(form, seed + 10)
            self.assertEqual(codewords, self.pure(taken, form, slow_page(form, codewords)))

    def test_frame_and_marks_and_other_cells_have_no_effect(self):
        for form in FORMS:
            codewords = random_codewords(form, 3)
            places = {cell for place in range(form.codewords * 16) for cell in slow_place(form, place)}
            others = [(row, column) for row in range(form.side) for column in range(form.side)
                      if (row, column) not in places]
            for cell in range(3):
                rows = with_cells(slow_page(form, codewords), [(place, cell) for place in others])
                self.assertEqual(codewords, taken(form, rows))

    def test_each_cell_of_a_place_unreadable(self):
        for form in FORMS[:4]:
            codewords = random_codewords(form, 4)
            page = slow_page(form, codewords)
            for number, at, cell in itertools.product(range(form.codewords), (0, 7, 15), range(4)):
                rows = with_cells(page, [(symbol_place(form, number, at)[cell], 2)])
                expected = [list(codeword) for codeword in codewords]
                expected[number][at] = None
                self.assertEqual(expected, self.pure(taken, form, rows))

    def test_no_square(self):
        for form in FORMS:
            page = empty_page(form)
            for wrong in ([], page[:-1], page + [page[0]], [page[0][:-1], *page[1:]], [*page[:-1], page[0] + [1]],
                          [*page[:5], [], *page[6:]], [row[:-1] for row in page], [[] for _ in page],
                          slow_empty_page(form.side + 1), slow_empty_page(form.side - 1)):
                self.raised(InvalidPage, taken, form, wrong)

    def test_no_cells(self):
        for form in FORMS[:3]:
            page = empty_page(form)
            ends = (0, 1, 2, form.side // 2, form.side - 1)
            for row, column, wrong in itertools.product(ends, ends, NO_CELLS):
                self.raised(InvalidPage, taken, form, with_cells(page, [((row, column), wrong)]))
