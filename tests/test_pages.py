"""Points 37 to 41."""

import itertools
import random

from scanpages.coding import encode
from scanpages.errors import InvalidLabel, InvalidPage
from scanpages.layout import taken, written
from scanpages.pages import draw_page, read_lists, read_page
from tests.paper import (FORMS, NO_CELLS, page_codewords, random_body, random_codewords, slow_empty_page, slow_page,
                         symbol_place, with_cells)
from tests.support import ProgramTest

LABEL = (7, 4, 5, 3, 2)
LABELS = (LABEL, (0, 0, 1, 1, 0), (255, 254, 255, 12, 0), (171, 2, 1, 1, 15), (16, 100, 200, 8, 2))
NO_LABELS = ((256, 0, 5, 3, 2), (7, 9, 5, 3, 2), (7, 0, 0, 3, 2), (7, 0, 5, 13, 2), (7, 0, 5, 3, 14))


def damage(form, rows, codeword, wrong, unreadable):
    """A page on which so many symbols of a codeword are wrong and unreadable, the first ones and the next ones."""
    changes = []
    for number in range(wrong):
        row, column = symbol_place(form, codeword, number)[number % 4]
        changes.append(((row, column), 1 - rows[row][column]))
    for number in range(wrong, wrong + unreadable):
        changes.append((symbol_place(form, codeword, number)[number % 4], 2))
    return with_cells(rows, changes)


def pairs_at_the_bound(checks):
    """Numbers of wrong and unreadable symbols that just can be corrected."""
    return [(wrong, checks - 2 * wrong) for wrong in range(checks // 2 + 1)]


class DrawTest(ProgramTest):

    def test_the_words_of_the_document(self):
        for seed, form in enumerate(FORMS):
            for label in LABELS:
                body = random_body(form, seed)
                self.assertEqual(slow_page(form, page_codewords(form, label, body)),
                                 self.pure(draw_page, form, label, body))

    def test_there_and_back(self):
        for seed, form in enumerate(FORMS):
            for label in LABELS:
                for body in (random_body(form, seed), [0] * form.body_size, [15] * form.body_size):
                    found = self.pure(read_page, form, draw_page(form, label, body))
                    self.assertEqual((label, body), found)
                    self.assertIsInstance(found, tuple)
                    self.assertIsInstance(found[0], tuple)
                    self.assertIsInstance(found[1], list)

    def test_wrong_labels(self):
        form = FORMS[0]
        for label in NO_LABELS:
            for body in ([0] * form.body_size, [], [0] * (form.body_size + 1), [16] * form.body_size):
                self.raised(InvalidLabel, draw_page, form, label, body)

    def test_wrong_bodies(self):
        for form in FORMS:
            right = [1] * form.body_size
            for body in ([], right[:-1], right + [0], right * 2):
                self.raised(InvalidPage, draw_page, form, LABEL, body)
            for at, wrong in itertools.product((0, form.body_size // 2, form.body_size - 1), (-1, 16, 10 ** 5000)):
                self.raised(InvalidPage, draw_page, form, LABEL, right[:at] + [wrong] + right[at + 1:])


class ReadTest(ProgramTest):

    def test_at_the_bound_in_each_codeword(self):
        for form in FORMS[:5]:
            body = random_body(form, 5)
            page = draw_page(form, LABEL, body)
            for codeword in range(form.codewords):
                for wrong, unreadable in pairs_at_the_bound(form.checks):
                    rows = damage(form, page, codeword, wrong, unreadable)
                    self.assertEqual((LABEL, body), self.pure(read_page, form, rows))

    def test_at_the_bound_in_all_codewords(self):
        for form in FORMS:
            body = random_body(form, 6)
            for wrong, unreadable in pairs_at_the_bound(form.checks):
                rows = draw_page(form, LABEL, body)
                for codeword in range(form.codewords):
                    rows = damage(form, rows, codeword, wrong, unreadable)
                self.assertEqual((LABEL, body), read_page(form, rows))

    def test_one_beyond_the_bound(self):
        for form in FORMS[:5]:
            body = random_body(form, 7)
            page = draw_page(form, LABEL, body)
            for codeword in range(form.codewords):
                for wrong, unreadable in pairs_at_the_bound(form.checks):
                    rows = damage(form, page, codeword, wrong, unreadable + 1)
                    self.assertNotEqual((LABEL, body), self.pure(read_page, form, rows))
                rows = damage(form, page, codeword, 0, form.checks + 1)
                self.assertIsNone(self.pure(read_page, form, rows))

    def test_frame_and_marks_are_not_looked_at(self):
        chance = random.Random(8)
        for form in FORMS:
            body = random_body(form, 8)
            page = draw_page(form, LABEL, body)
            ring = [(row, column) for row in range(form.side) for column in range(form.side)
                    if min(row, column) < 2 or max(row, column) >= form.side - 2]
            for cells in ((0,), (1,), (2,), (0, 1, 2)):
                rows = with_cells(page, [(place, chance.choice(cells)) for place in ring])
                self.assertEqual((LABEL, body), read_page(form, rows))

    def codeword_0(self, form, symbols):
        """What is read from a page with these symbols in codeword 0 and with a body of zeros."""
        empty = [encode([0] * form.data_symbols, 16) for _ in range(form.codewords - 1)]
        return self.pure(read_page, form, written(form, [encode(symbols, 16), *empty]))

    def test_symbols_behind_the_label(self):
        symbols = page_codewords(FORMS[0], LABEL, [])[0][:8]
        for form in FORMS:
            size = form.data_symbols
            behind = [0] * (size - 8)
            self.assertEqual((LABEL, [0] * form.body_size), self.codeword_0(form, symbols + behind))
            for at in range(size - 8):
                for symbol in (1, 15):
                    wrong = behind[:at] + [symbol] + behind[at + 1:]
                    self.assertIsNone(self.codeword_0(form, symbols + wrong))

    def test_symbols_that_are_no_label(self):
        for form in FORMS:
            for symbols in ([0] * 8, [0, 7, 0, 9, 0, 5, 3, 2], [0, 7, 0, 0, 0, 5, 0, 2], [0, 7, 0, 0, 0, 5, 13, 2],
                            [0, 7, 0, 0, 0, 5, 3, 14], [0, 7, 0, 0, 0, 0, 3, 2], [15] * 8):
                self.assertIsNone(self.codeword_0(form, symbols + [0] * (form.data_symbols - 8)))

    def test_noise(self):
        for seed, form in enumerate(FORMS[4:]):
            self.assertIsNone(read_page(form, slow_page(form, random_codewords(form, seed))))
            self.assertIsNone(read_page(form, [[2] * form.side for _ in range(form.side)]))
        # A white field shows codewords of zeros, and they are no label.
        self.assertIsNone(read_page(FORMS[0], slow_empty_page(16)))

    def test_lists(self):
        for form in FORMS:
            body = random_body(form, 9)
            rows = draw_page(form, LABEL, body)
            for codeword in range(form.codewords):
                rows = damage(form, rows, codeword, 1, form.checks - 2)
            lists = taken(form, rows)
            self.assertTrue(any(None in received for received in lists) or form.checks == 2)
            self.assertEqual((LABEL, body), self.pure(read_lists, form, lists))
            lists[-1] = [None] * 16
            self.assertIsNone(self.pure(read_lists, form, lists))

    def test_wrong_squares(self):
        for form in FORMS[:3]:
            page = draw_page(form, LABEL, random_body(form, 1))
            for wrong in ([], page[:-1], page + [page[0]], [page[0][:-1], *page[1:]], [*page[:-1], page[0] + [1]]):
                self.raised(InvalidPage, read_page, form, wrong)
            for place, wrong in itertools.product(((0, 0), (1, 1), (5, 5), (form.side - 1, form.side - 1)), NO_CELLS):
                self.raised(InvalidPage, read_page, form, with_cells(page, [(place, wrong)]))
