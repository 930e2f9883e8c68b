"""Points 40 and 41."""

import itertools

from scanpages.errors import InvalidLabel
from scanpages.labels import check_label, group_pages, label_symbols, symbols_label
from tests.support import ProgramTest

# Each item of this label may be changed, and what comes of it is still a label for some values and none for others.
USUAL = (7, 0, 5, 3, 2)


def changed_label(at, value):
    """The usual label with another item."""
    return USUAL[:at] + (value,) + USUAL[at + 1:]


def groups_of(data_pages, size):
    """How many groups there are, counted one by one."""
    return len([first for first in range(data_pages) if first % size == 0])


def slow_symbols(label):
    """The symbols of a label, in the words of the document."""
    symbols = []
    for integer in label[:3]:
        symbols.extend(divmod(integer, 16))
    return symbols + list(label[3:])


def archives():
    """Numbers of data pages, group sizes and group checks of archives of which each has a last page."""
    for data_pages in (1, 2, 5, 11, 12, 13, 24, 25, 63, 64, 128, 200, 255):
        for size in range(1, 13):
            for checks in range(17 - size):
                pages = data_pages + groups_of(data_pages, size) * checks
                if pages <= 255:
                    yield data_pages, size, checks, pages


class CheckTest(ProgramTest):

    def test_number_of_pages(self):
        for data_pages, size, checks, pages in archives():
            for page in {0, pages // 2, pages - 1}:
                self.assertEqual(pages, self.pure(check_label, (3, page, data_pages, size, checks)))
            for page in (pages, pages + 1, -1):
                self.raised(InvalidLabel, check_label, (3, page, data_pages, size, checks))

    def test_archive(self):
        for archive in (0, 1, 254, 255):
            self.assertEqual(9, check_label(changed_label(0, archive)))
        for archive in (-1, 256, 10 ** 5000):
            self.raised(InvalidLabel, check_label, changed_label(0, archive))

    def test_page(self):
        for page in range(9):
            self.assertEqual(9, check_label(changed_label(1, page)))
        for page in (-1, 9, 10, 255, 10 ** 5000):
            self.raised(InvalidLabel, check_label, changed_label(1, page))

    def test_data_pages(self):
        self.assertEqual(3, check_label((7, 0, 1, 3, 2)))
        self.assertEqual(255, check_label((7, 0, 255, 3, 0)))
        for data_pages in (0, -1, -5, 256, 10 ** 5000):
            self.raised(InvalidLabel, check_label, (7, 0, data_pages, 3, 0))
            self.raised(InvalidLabel, check_label, changed_label(2, data_pages))

    def test_group_size_and_checks(self):
        for size in range(-2, 20):
            for checks in range(-2, 20):
                label = (7, 0, 5, size, checks)
                if 1 <= size <= 12 and 0 <= checks <= 16 - size:
                    self.assertEqual(5 + groups_of(5, size) * checks, check_label(label))
                else:
                    self.raised(InvalidLabel, check_label, label)

    def test_pages_together(self):
        # 51 groups of 4 data pages and 1 check page each.
        self.assertEqual(255, check_label((0, 254, 204, 4, 1)))
        for page in (0, 254, 255):
            self.raised(InvalidLabel, check_label, (0, page, 205, 4, 1))
        self.assertEqual(255, check_label((0, 0, 17, 1, 14)))
        self.raised(InvalidLabel, check_label, (0, 0, 18, 1, 14))
        self.assertEqual(256, 16 + 16 * 15)
        self.raised(InvalidLabel, check_label, (0, 0, 16, 1, 15))
        self.raised(InvalidLabel, check_label, (0, 0, 255, 12, 1))


class SymbolsTest(ProgramTest):

    def test_there_and_back(self):
        for data_pages, size, checks, pages in archives():
            for archive, page in itertools.product((0, 15, 16, 171, 255), {0, pages // 3, pages - 1}):
                label = (archive, page, data_pages, size, checks)
                symbols = label_symbols(label)
                self.assertEqual(slow_symbols(label), symbols)
                self.assertEqual(label, symbols_label(symbols))
        self.assertEqual([10, 11, 1, 4, 2, 0, 5, 6], self.pure(label_symbols, (171, 20, 32, 5, 6)))
        self.assertEqual((171, 20, 32, 5, 6), self.pure(symbols_label, [10, 11, 1, 4, 2, 0, 5, 6]))

    def test_no_label(self):
        for label in ((256, 0, 5, 3, 2), (7, 9, 5, 3, 2), (7, -1, 5, 3, 2), (7, 0, 0, 3, 2), (7, 0, 5, 0, 2),
                      (7, 0, 5, 13, 2), (7, 0, 5, 12, 5), (7, 0, 5, 3, -1), (-1, 0, 5, 3, 2), (7, 0, 205, 4, 1)):
            self.raised(InvalidLabel, label_symbols, label)
            self.raised(InvalidLabel, group_pages, label, 0)

    def test_symbols_of_no_label(self):
        for label in ((7, 9, 5, 3, 2), (7, 255, 5, 3, 2), (7, 0, 0, 3, 2), (7, 0, 5, 0, 2), (7, 0, 5, 13, 2),
                      (7, 0, 5, 12, 5), (7, 0, 5, 15, 15), (7, 0, 205, 4, 1), (0, 0, 0, 0, 0)):
            self.raised(InvalidLabel, symbols_label, slow_symbols(label))

    def test_no_eight_symbols(self):
        symbols = slow_symbols(USUAL)
        self.assertEqual(USUAL, symbols_label(symbols))
        for wrong in (symbols[:7], symbols + [0], [], [0, 7, 0, -16, *symbols[4:]], [-1, 23, *symbols[2:]],
                      [*symbols[:4], -1, 21, *symbols[6:]], [*symbols[:2], 0, 16, 1, 4, 3, 2]):
            self.raised(InvalidLabel, symbols_label, wrong)


class GroupTest(ProgramTest):

    def test_example(self):
        self.assertEqual([3, 4, 7, 8], self.pure(group_pages, (7, 0, 5, 3, 2), 1))
        self.assertEqual([0, 1, 2, 5, 6], self.pure(group_pages, (7, 0, 5, 3, 2), 0))

    def test_the_words_of_the_document(self):
        for data_pages, size, checks, pages in archives():
            label = (0, pages - 1, data_pages, size, checks)
            for group in range(groups_of(data_pages, size)):
                expected = [page for page in range(data_pages) if page // size == group]
                expected += [data_pages + group * checks + number for number in range(checks)]
                self.assertEqual(expected, group_pages(label, group))

    def test_all_groups_have_all_pages(self):
        for data_pages, size, checks, pages in archives():
            label = (0, 0, data_pages, size, checks)
            together = [page for group in range(groups_of(data_pages, size)) for page in group_pages(label, group)]
            self.assertEqual(list(range(pages)), sorted(together))

    def test_groups_that_are_not_there(self):
        for label, groups in (((7, 0, 5, 3, 2), 2), ((7, 0, 6, 3, 2), 2), ((7, 0, 7, 3, 2), 3), ((7, 0, 1, 12, 0), 1),
                              ((7, 0, 255, 1, 0), 255)):
            group_pages(label, groups - 1)
            for group in (-1, -groups, groups, groups + 1, 10 ** 5000):
                self.raised(InvalidLabel, group_pages, label, group)
