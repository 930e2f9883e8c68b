"""Points 61, 62, 63 and 64, with points 51 and 52."""

import random

from scanpages.archives import Settings, archive_pages, print_archive
from scanpages.beds import changed, laid
from scanpages.errors import InvalidArchive, InvalidBed, InvalidPage, TooManyPages
from scanpages.formats import Format
from scanpages.groups import check_bodies, complete
from scanpages.labels import group_pages
from scanpages.pages import draw_page
from scanpages.shelf import Shelf
from tests.paper import NO_CELLS
from tests.scans import damaged, scan_anyhow
from tests.support import ProgramTest, plain
from tests.test_archives import octets_of
from tests.test_beds import NO_BEDS, white
from tests.test_joining import torn_from
from tests.test_scanning import expected_parts

FORM = Format(18, 8)
# With three octets on a page, these are seven data pages in the groups 0 1 2, 3 4 5 and 6, and check pages 7 to 12.
SETTINGS = Settings(FORM, 9, 3, 2)
PARTS = [octets_of(8), [], octets_of(7, 3)]
PAGES = 13


def rows_of(bed):
    """A bed of a shelf as a list of lists."""
    return [list(row) for row in bed]


def kept(bed):
    """A bed in the form in which a shelf keeps it."""
    return tuple(tuple(row) for row in bed)


def fresh(page):
    """The fresh bed of a page, cell by cell."""
    length = len(page) + 4
    bed = [[0] * length for _ in range(length)]
    for row, cells in enumerate(page):
        for column, cell in enumerate(cells):
            bed[row + 2][column + 2] = cell
    return kept(bed)


class NewShelfTest(ProgramTest):

    def test_beds(self):
        for settings in (SETTINGS, Settings(Format(20, 4), 0, 1, 0), Settings(Format(40, 2), 255, 12, 4)):
            shelf = self.pure(Shelf, settings, PARTS)
            pages = print_archive(settings, PARTS)
            self.assertEqual(tuple(map(fresh, pages)), shelf.beds)
            self.assertEqual(len(pages), len(shelf))
            self.assertEqual([True] * len(pages), self.pure(shelf.inspect))
        self.assertEqual(PAGES, len(Shelf(SETTINGS, PARTS)))

    def test_settings(self):
        settings = Settings(Format(18, 8), 9, 3, 2)
        shelf = Shelf(settings, PARTS)
        self.assertIsInstance(shelf.settings, Settings)
        expected = plain(settings)
        settings.archive = 8
        settings.form.side = 20
        self.assertEqual(expected, plain(shelf.settings))
        self.assertEqual([True] * PAGES, shelf.inspect())

    def test_parts_that_are_changed_later(self):
        parts = [list(part) for part in PARTS]
        shelf = Shelf(SETTINGS, parts)
        parts[0][0] = 99
        parts.append([1])
        self.assertEqual(tuple(map(tuple, PARTS)), shelf.restored().parts)

    def test_errors(self):
        for parts in ([], [[]] * 100, [octets_of(4001)], [[256]], [[], [-1]], [octets_of(4000), [256]]):
            self.raised(InvalidArchive, Shelf, SETTINGS, parts)
        for parts in ([octets_of(4000)], [octets_of(766)], [octets_of(600)]):
            self.raised(TooManyPages, Shelf, SETTINGS, parts)


class ShelfTest(ProgramTest):

    def setUp(self):
        self.shelf = Shelf(SETTINGS, PARTS)
        self.pages = print_archive(SETTINGS, PARTS)
        self.new = self.shelf.beds

    def refuse(self, error, call, *arguments):
        """Checks that a call raises an error and changes nothing."""
        before = plain(self.shelf)
        self.raised(error, call, *arguments)
        self.assertEqual(before, plain(self.shelf))

    def check_form(self):
        """Checks that the shelf consists of tuples."""
        self.assertIsInstance(self.shelf.beds, tuple)
        for bed in self.shelf.beds:
            if bed is not None:
                self.assertEqual({tuple}, {type(bed), *map(type, bed)})

    def check_bed(self, number, expected):
        """Checks that the bed of one page is another one, and all others are fresh."""
        self.check_form()
        beds = list(self.new)
        beds[number] = None if expected is None else kept(expected)
        self.assertEqual(tuple(beds), self.shelf.beds)

    def tear(self, number):
        """Changes so many cells of a page that it cannot be read."""
        self.shelf.age(number, [(row, column, 2) for row in range(4, 15) for column in range(4, 18)])

    def failing(self):
        """The numbers of the pages that do not pass the inspection."""
        passing = self.pure(self.shelf.inspect)
        self.assertIsInstance(passing, list)
        self.assertEqual(PAGES, len(passing))
        self.assertLessEqual({type(passed) for passed in passing}, {bool})
        return [number for number, passed in enumerate(passing) if not passed]


class AgeTest(ShelfTest):

    def test_cells(self):
        changes = [(0, 0, 1), (21, 21, 2), (5, 6, 1), (5, 6, 2)]
        self.shelf.age(4, changes)
        self.check_bed(4, changed(rows_of(self.new[4]), changes))
        self.shelf.age(4, [(0, 0, 0)])
        self.check_bed(4, changed(rows_of(self.new[4]), changes[1:]))

    def test_no_cell(self):
        for number in range(PAGES):
            self.shelf.age(number, [])
        self.assertEqual(self.new, self.shelf.beds)

    def test_the_first_and_the_last_page(self):
        for number in (0, PAGES - 1):
            self.shelf = Shelf(SETTINGS, PARTS)
            self.shelf.age(number, [(1, 1, 1)])
            self.check_bed(number, changed(rows_of(self.new[number]), [(1, 1, 1)]))

    def test_the_result_is_nothing(self):
        self.assertIsNone(self.shelf.age(0, []))

    def test_the_changes_stay(self):
        changes = [(1, 1, 1)]
        self.shelf.age(0, changes)
        changes[0] = (1, 1, 2)
        changes.append((2, 2, 2))
        self.check_bed(0, changed(rows_of(self.new[0]), [(1, 1, 1)]))

    def test_errors(self):
        self.shelf.swap(3, None)
        self.shelf.swap(4, [[0]])
        off = [(22, 0, 0), (0, 22, 0), (-1, 0, 0), (0, -1, 0), *((0, 0, cell) for cell in NO_CELLS)]
        for number in (-1, PAGES, PAGES + 1, -PAGES, 10 ** 5000, -10 ** 5000, 3):
            for changes in ([], [(0, 0, 0)], off[:1], off):
                self.refuse(InvalidPage, self.shelf.age, number, changes)
        for wrong in off:
            for changes in ([wrong], [(0, 0, 1), wrong], [wrong, (0, 0, 1)]):
                self.refuse(InvalidBed, self.shelf.age, 2, changes)
        self.refuse(InvalidBed, self.shelf.age, 4, [(0, 1, 0)])
        self.refuse(InvalidBed, self.shelf.age, 4, [(1, 0, 0)])
        self.shelf.age(4, [(0, 0, 2)])
        self.assertEqual(((2,),), self.shelf.beds[4])


class SwapTest(ShelfTest):

    def test_beds(self):
        for bed in ([[0]], [[0, 1, 2]], white(60, 60), rows_of(self.new[7])):
            self.shelf.swap(2, bed)
            self.check_bed(2, bed)
        self.shelf.swap(2, None)
        self.check_bed(2, None)
        self.shelf.swap(2, None)
        self.check_bed(2, None)
        self.shelf.swap(2, rows_of(self.new[2]))
        self.check_bed(2, self.new[2])

    def test_the_result_is_nothing(self):
        self.assertIsNone(self.shelf.swap(0, [[0]]))
        self.assertIsNone(self.shelf.swap(0, None))

    def test_lists_that_are_changed_later(self):
        bed = [[0, 1], [1, 2]]
        self.shelf.swap(2, bed)
        bed[0][0] = 2
        bed.append([1, 1])
        self.check_bed(2, [[0, 1], [1, 2]])

    def test_errors(self):
        for number in (-1, PAGES, PAGES + 1, -PAGES, 10 ** 5000, -10 ** 5000):
            for bed in (None, [[0]], *NO_BEDS):
                self.refuse(InvalidPage, self.shelf.swap, number, bed)
        for number in (0, 5, PAGES - 1):
            for bed in (*NO_BEDS, [[3]], [[0, -1]]):
                self.refuse(InvalidBed, self.shelf.swap, number, bed)


class InspectTest(ShelfTest):

    def test_new(self):
        self.assertEqual([], self.failing())

    def test_damage(self):
        chance = random.Random(1)
        self.shelf.swap(3, scan_anyhow(chance, FORM, damaged(chance, FORM, self.pages[3])))
        self.assertEqual([], self.failing())
        self.tear(5)
        self.assertEqual([5], self.failing())

    def test_beds_of_all_kinds(self):
        chance = random.Random(2)
        others = archive_pages(SETTINGS, PARTS)
        body = others[4][1]
        for bed, passes in ((None, False), ([[0]], False), (white(60, 60), False), (rows_of(self.new[4]), True),
                            (rows_of(self.new[3]), False), (rows_of(self.new[12]), False),
                            (scan_anyhow(chance, FORM, self.pages[4]), True),
                            (laid(self.pages[4], 7, 30, 40, 5, 9), True),
                            (scan_anyhow(chance, FORM, torn_from(FORM, self.pages[4], 2)), False),
                            (fresh(draw_page(FORM, (9, 4, 7, 3, 2), [0] * FORM.body_size)), True),
                            (fresh(draw_page(FORM, (8, 4, 7, 3, 2), body)), False),
                            (fresh(draw_page(FORM, (9, 5, 7, 3, 2), body)), False),
                            (fresh(draw_page(FORM, (9, 4, 6, 3, 2), body)), False),
                            (fresh(draw_page(FORM, (9, 4, 7, 4, 2), body)), False),
                            (fresh(draw_page(FORM, (9, 4, 7, 3, 1), body)), False)):
            self.shelf.swap(4, bed if bed is None else rows_of(bed))
            self.assertEqual([] if passes else [4], self.failing())

    def test_each_bed_is_read_alone(self):
        # Both beds show page 4 only together.
        for number, start in ((4, 0), (5, 8)):
            self.shelf.swap(number, laid(torn_from(FORM, self.pages[4], start), 0, 22, 22, 2, 2))
        self.assertEqual([4, 5], self.failing())

    def test_all_gone(self):
        for number in range(PAGES):
            self.shelf.swap(number, None)
        self.assertEqual(list(range(PAGES)), self.failing())


class MendTest(ShelfTest):

    def check_mend(self, expected_numbers, lost=()):
        """Mends the shelf, compares what is told, and checks that all pages but the lost ones are fresh."""
        numbers = self.shelf.mend()
        self.assertIsInstance(numbers, list)
        self.assertEqual(list(expected_numbers), numbers)
        self.check_form()
        self.assertEqual(tuple(None if number in lost else bed for number, bed in enumerate(self.new)), self.shelf.beds)
        before = plain(self.shelf)
        self.assertEqual([], self.shelf.mend())
        self.assertEqual(before, plain(self.shelf))

    def test_a_new_shelf(self):
        self.check_mend([])

    def test_pages_that_pass_get_their_fresh_beds(self):
        chance = random.Random(3)
        self.shelf.age(2, [(0, 0, 1)])
        self.shelf.age(3, [(4, 4, 2)])
        self.shelf.swap(6, laid(self.pages[6], 5, 22, 22, 2, 2))
        self.shelf.swap(8, scan_anyhow(chance, FORM, damaged(chance, FORM, self.pages[8])))
        self.shelf.swap(12, laid(self.pages[12], 0, 22, 22, 2, 3))
        self.assertEqual([], self.failing())
        self.check_mend([2, 3, 6, 8, 12])

    def test_a_fresh_bed_that_is_put_back_is_not_changed(self):
        self.shelf.swap(2, None)
        self.shelf.swap(2, rows_of(self.new[2]))
        self.check_mend([])

    def test_groups_with_just_enough_pages(self):
        # Groups of the pages 0 1 2 7 8, of 3 4 5 9 10, and of 6 11 12.
        for gone in ((0,), (0, 1), (1, 8), (7, 8), (3, 10), (6, 11), (11, 12), (6, 12), (0, 2, 4, 9, 6, 11),
                     (7, 8, 9, 10, 11, 12), (1, 2, 4, 5, 6, 12)):
            for kind in range(3):
                for number in gone:
                    if kind == 0:
                        self.shelf.swap(number, None)
                    elif kind == 1:
                        self.shelf.swap(number, white(60, 60))
                    else:
                        self.tear(number)
                self.assertEqual(sorted(gone), self.failing())
                self.check_mend(sorted(gone))

    def test_groups_with_one_page_fewer(self):
        for gone in ((0, 1, 2), (0, 1, 7), (2, 7, 8), (3, 4, 10), (5, 9, 10), (6, 11, 12), (0, 1, 2, 7, 8)):
            self.shelf = Shelf(SETTINGS, PARTS)
            for number in gone:
                self.tear(number)
            self.check_mend(sorted(gone), lost=gone)

    def test_a_page_that_stays_gone_is_not_among_the_changed_ones(self):
        for number in (0, 1):
            self.shelf.swap(number, None)
        self.tear(7)
        self.shelf.swap(8, laid(self.pages[8], 3, 22, 22, 2, 2))
        self.shelf.swap(3, None)
        self.check_mend([3, 7, 8], lost=(0, 1, 7))

    def test_all_gone(self):
        for number in range(PAGES):
            self.shelf.swap(number, None)
        self.check_mend([], lost=range(PAGES))

    def test_all_unreadable(self):
        for number in range(PAGES):
            self.shelf.swap(number, [[2]])
        self.check_mend(range(PAGES), lost=range(PAGES))

    def test_beds_of_other_pages(self):
        chance = random.Random(4)
        other = print_archive(Settings(FORM, 8, 3, 2), PARTS)
        other_group = print_archive(Settings(FORM, 9, 4, 2), PARTS)
        self.shelf.swap(0, rows_of(self.new[1]))
        self.shelf.swap(4, scan_anyhow(chance, FORM, other[4]))
        self.shelf.swap(5, scan_anyhow(chance, FORM, other_group[5]))
        self.shelf.swap(6, rows_of(self.new[11]))
        self.shelf.swap(12, white(5, 60))
        self.assertEqual([0, 4, 5, 6, 12], self.failing())
        self.check_mend([0, 4, 5, 6, 12])

    def test_pages_are_computed_from_those_that_pass(self):
        # Page 4 is exchanged for one with another body; what passes decides what the others become.
        pairs = archive_pages(SETTINGS, PARTS)
        bodies = [pairs[number][1] for number in (3, 4, 5, 9, 10)]
        bodies[1] = [5] * FORM.body_size
        other = draw_page(FORM, pairs[4][0], bodies[1])
        self.shelf.swap(4, rows_of(fresh(other)))
        self.shelf.swap(3, None)
        # The data pages 4 and 5 and the check page 9 come first.
        bodies[0] = complete([None, *bodies[1:]], 3)[0]
        bodies[4] = check_bodies(bodies[:3], 2)[1]
        self.assertEqual([3, 10], self.shelf.mend())
        for number, body in zip((3, 4, 5, 9, 10), bodies):
            self.assertEqual(fresh(draw_page(FORM, pairs[number][0], body)), self.shelf.beds[number])
        self.assertNotEqual(self.new[3], self.shelf.beds[3])
        self.assertEqual([], self.failing())
        # With all data pages there, both check pages follow them.
        self.shelf = Shelf(SETTINGS, PARTS)
        self.shelf.swap(4, rows_of(fresh(other)))
        self.assertEqual([9, 10], self.shelf.mend())
        self.assertEqual((self.new[3], fresh(other), self.new[5]), self.shelf.beds[3:6])

    def test_passing_pages_of_lost_groups_keep_their_bodies(self):
        pairs = archive_pages(SETTINGS, PARTS)
        drawn = draw_page(FORM, pairs[4][0], [5] * FORM.body_size)
        for number in (3, 9, 10):
            self.shelf.swap(number, None)
        self.shelf.swap(4, laid(drawn, 6, 30, 30, 3, 7))
        self.assertEqual([4], self.shelf.mend())
        self.assertEqual(fresh(drawn), self.shelf.beds[4])
        self.assertEqual([3, 9, 10], self.failing())

    def test_without_check_pages(self):
        self.shelf = Shelf(Settings(FORM, 9, 2, 0), PARTS)
        new = self.shelf.beds
        self.shelf.swap(0, None)
        self.shelf.swap(1, laid(print_archive(Settings(FORM, 9, 2, 0), PARTS)[1], 1, 22, 22, 2, 2))
        self.shelf.age(4, [(4, 4, 2)])
        self.assertEqual([1, 4], self.shelf.mend())
        self.assertEqual((None, *new[1:]), self.shelf.beds)

    def test_generations(self):
        chance = random.Random(5)
        groups = [group_pages((9, 0, 7, 3, 2), group) for group in range(3)]
        for _ in range(12):
            gone = []
            for group in groups:
                gone += chance.sample(group, chance.randrange(3))
            changed_pages = set(gone)
            for number in gone:
                self.shelf.swap(number, chance.choice((None, [[1]], rows_of(self.new[(number + 1) % PAGES]))))
            for number in chance.sample(range(PAGES), 4):
                if number not in gone:
                    self.shelf.swap(number, scan_anyhow(chance, FORM, damaged(chance, FORM, self.pages[number])))
                    changed_pages.add(number)
            self.assertEqual(sorted(gone), self.failing())
            self.check_mend(sorted(changed_pages))

    def test_many_formats(self):
        chance = random.Random(6)
        for form in (Format(16, 4), Format(23, 2), Format(27, 6), Format(40, 8)):
            for group, checks in ((1, 1), (2, 1), (5, 3), (12, 4)):
                self.shelf = Shelf(Settings(form, 1, group, checks), PARTS)
                new = self.shelf.beds
                self.assertEqual([True] * len(new), self.shelf.inspect())
                for number in chance.sample(range(len(new)), checks):
                    self.shelf.swap(number, None)
                self.shelf.mend()
                self.assertEqual(new, self.shelf.beds)


class RestoredTest(ShelfTest):

    def check_restored(self, there):
        """Compares what is restored with what the document says for the pages that are there."""
        found = self.pure(self.shelf.restored)
        self.assertEqual(expected_parts(SETTINGS, PARTS, there), found.parts)
        self.assertEqual(PAGES if there else 0, found.pages)
        gone = tuple(number for number in range(PAGES) if number not in there)
        self.assertEqual(gone if there else (), found.missing)

    def test_before_and_after_mending(self):
        everything = list(range(PAGES))
        self.check_restored(everything)
        self.shelf.swap(0, None)
        self.tear(5)
        self.check_restored([number for number in everything if number not in (0, 5)])
        self.shelf.mend()
        self.check_restored(everything)

    def test_one_part_lost(self):
        for number in (6, 11, 12):
            self.tear(number)
        there = [number for number in range(PAGES) if number not in (6, 11, 12)]
        self.check_restored(there)
        self.assertEqual((2,), self.shelf.restored().lost_parts)
        self.shelf.mend()
        self.check_restored(there)
        self.assertEqual((2,), self.shelf.restored().lost_parts)

    def test_nothing_left(self):
        for number in range(PAGES):
            self.shelf.swap(number, None if number % 2 else [[0]])
        self.check_restored([])
        self.shelf.mend()
        self.check_restored([])

    def test_beds_in_wrong_places_are_read(self):
        self.shelf.swap(0, rows_of(self.new[3]))
        self.shelf.swap(3, rows_of(self.new[0]))
        self.assertEqual([0, 3], self.failing())
        self.check_restored(list(range(PAGES)))

    def test_beds_are_joined(self):
        for number, start in ((4, 0), (5, 8)):
            self.shelf.swap(number, laid(torn_from(FORM, self.pages[4], start), 0, 22, 22, 2, 2))
        self.check_restored([number for number in range(PAGES) if number != 5])

    def test_the_first_bed_counts(self):
        other = fresh(print_archive(SETTINGS, [octets_of(8, 9), *PARTS[1:]])[0])
        self.shelf.swap(7, rows_of(other))
        self.assertEqual(tuple(PARTS[0]), self.shelf.restored().parts[0])
        self.shelf.swap(7, rows_of(self.new[0]))
        self.shelf.swap(0, rows_of(other))
        self.assertEqual((*octets_of(3, 9), *PARTS[0][3:]), self.shelf.restored().parts[0])
