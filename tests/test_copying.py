"""Points 76 and 77, with points 51, 52 and 66."""

import random

from scanpages.archives import Settings, archive_pages, print_archive, read_archive
from scanpages.copying import copy_pages, migrate
from scanpages.errors import InvalidBed, NoSuchPart, PrimerError, TooManyPages
from scanpages.expander import expander_code
from scanpages.formats import Format
from scanpages.groups import check_bodies, complete
from scanpages.labels import group_pages
from scanpages.pages import draw_page
from scanpages.primer import write_primer
from scanpages.restoring import publish, restore
from tests.scans import damaged, library, scan_anyhow, torn_scans, unreadable_beds
from tests.support import ProgramTest
from tests.test_archives import octets_of
from tests.test_beds import NO_BEDS
from tests.test_joining import torn_from
from tests.test_restoring import flat
from tests.test_scanning import random_parts

FORM = Format(18, 8)
# With three octets on a page, these are seven data pages in the groups 0 1 2, 3 4 5 and 6, and check pages 7 to 12.
SETTINGS = Settings(FORM, 9, 3, 2)
PARTS = [octets_of(8), [], octets_of(7, 3)]
PAGES = 13


class CopyTest(ProgramTest):

    def setUp(self):
        self.pages = print_archive(SETTINGS, PARTS)

    def check(self, there, copied, beds=None):
        """Copies pages, and checks that exactly some pages are there again, dot by dot."""
        found = self.pure(copy_pages, FORM, 9, flat([self.pages[number] for number in there]) if beds is None else beds)
        self.assertIsInstance(found, list)
        self.assertEqual([(number, self.pages[number]) for number in sorted(copied)], found)
        for pair in found:
            self.assertEqual((tuple, list), (type(pair), type(pair[1])))

    def test_everything(self):
        self.check(range(PAGES), range(PAGES))
        self.check(range(PAGES)[::-1], range(PAGES))

    def test_nothing(self):
        self.assertEqual([], self.pure(copy_pages, FORM, 9, []))
        self.assertEqual([], self.pure(copy_pages, FORM, 9, [[[0]], [[2] * 60] * 60]))
        self.assertEqual([], self.pure(copy_pages, FORM, 8, flat(self.pages)))
        self.assertEqual([], self.pure(copy_pages, Format(20, 8), 9, flat(self.pages)))

    def test_damage_is_not_copied(self):
        chance = random.Random(1)
        beds = [scan_anyhow(chance, FORM, damaged(chance, FORM, page)) for page in self.pages]
        self.check(None, range(PAGES), beds)

    def test_groups_with_just_enough_pages_and_one_fewer(self):
        first, second, last = [group_pages((9, 0, 7, 3, 2), group) for group in range(3)]
        for there, copied in (([0, 1, 2], first), ([0, 7, 8], first), ([2, 7, 1], first), ([6], last), ([11], last),
                              ([12], last), ([0, 1], [0, 1]), ([7, 8], [7, 8]), ([9], [9]), ([3, 4], [3, 4]),
                              ([3, 10], [3, 10]), ([3, 10, 9, 0, 11], [*second, 0, *last]),
                              ([5, 4, 9, 6, 8, 1], [*second, *last, 1, 8])):
            self.check(there, copied)

    def test_all_sets_of_pages_of_a_small_archive(self):
        settings = Settings(FORM, 9, 2, 1)
        pages = print_archive(settings, [octets_of(3), octets_of(4)])
        for bits in range(32):
            there = [number for number in range(5) if bits >> number & 1]
            expected = set(there)
            for numbers in ((0, 1, 3), (2, 4)):
                if len(expected & set(numbers)) >= len(numbers) - 1:
                    expected |= set(numbers)
            found = copy_pages(FORM, 9, flat([pages[number] for number in there] or [[[0]]]))
            self.assertEqual([(number, pages[number]) for number in sorted(expected)], found)

    def test_pages_of_another_archive_and_other_labels(self):
        others = print_archive(Settings(FORM, 8, 3, 2), PARTS)
        self.check(None, [4], flat([*others, self.pages[4], *others]))
        for other in (Settings(FORM, 9, 2, 2), Settings(FORM, 9, 3, 1)):
            pages = print_archive(other, PARTS)
            self.check(None, [4], flat([self.pages[4], *pages]))
            self.assertEqual(list(enumerate(pages)), copy_pages(FORM, 9, flat([*pages, *self.pages])))
        pages = print_archive(SETTINGS, [*PARTS, []])
        self.check(None, [4], flat([self.pages[4], *pages]))

    def test_joined_scans(self):
        chance = random.Random(2)
        beds = torn_scans(chance, FORM, self.pages[4]) + torn_scans(chance, FORM, self.pages[11])
        beds.append(scan_anyhow(chance, FORM, torn_from(FORM, self.pages[5], 3)))
        self.check(None, [4, 6, 11, 12], beds)

    def test_of_repeated_pages_the_first_one_counts(self):
        other = draw_page(FORM, (9, 4, 7, 3, 2), [3] * FORM.body_size)
        self.check(None, [4], flat([self.pages[4], other]))
        self.assertEqual([(4, other)], copy_pages(FORM, 9, flat([other, self.pages[4]])))

    def test_check_pages_are_computed_though_they_are_read(self):
        pairs = archive_pages(SETTINGS, PARTS)
        label = pairs[0][0]
        bodies = [pairs[number][1] for number in (3, 4, 5, 9, 10)]
        # A wrong body of check page 10 is not copied, because its group has enough pages before it.
        wrong = draw_page(FORM, (9, 10, *label[2:]), [3] * FORM.body_size)
        self.check(None, [3, 4, 5, 9, 10], flat([wrong, *[self.pages[number] for number in (3, 4, 9)]]))
        self.check(None, [3, 4, 5, 9, 10], flat([wrong, *[self.pages[number] for number in (3, 4, 5, 9)]]))
        # In a group with fewer pages it is copied as it was read.
        self.assertEqual([(3, self.pages[3]), (10, wrong)], copy_pages(FORM, 9, flat([wrong, self.pages[3]])))
        # A wrong data page stays, and everything that is computed follows it.
        wrong_data = draw_page(FORM, (9, 4, *label[2:]), [3] * FORM.body_size)
        bodies[1] = [3] * FORM.body_size
        bodies[0] = complete([None, *bodies[1:4], None], 3)[0]
        bodies[3:] = check_bodies(bodies[:3], 2)
        beds = flat([wrong_data, *[self.pages[number] for number in (5, 9, 10)]])
        expected = [(number, draw_page(FORM, (9, number, *label[2:]), body))
                    for number, body in zip((3, 4, 5, 9, 10), bodies)]
        self.assertEqual(expected, copy_pages(FORM, 9, beds))
        self.assertNotEqual(self.pages[10], expected[4][1])

    def test_copies_of_copies(self):
        chance = random.Random(3)
        for form in (Format(16, 4), Format(20, 4), Format(27, 6)):
            settings = Settings(form, 9, 2, 1)
            pages = print_archive(settings, random_parts(chance, form, 3))
            copies = pages
            for _ in range(3):
                gone = [2 * chance.randrange(2)]
                beds = [scan_anyhow(chance, form, damaged(chance, form, page))
                        for number, page in enumerate(copies) if number not in gone]
                beds += unreadable_beds(chance, form, [copies[number] for number in gone])
                chance.shuffle(beds)
                found = copy_pages(form, 9, beds)
                self.assertEqual(list(range(len(pages))), [number for number, _ in found])
                copies = [page for _, page in found]
                self.assertEqual(pages, copies)

    def test_no_beds(self):
        good = flat(self.pages)
        for wrong in (*NO_BEDS, [[3]]):
            for beds in ([wrong], [*good, wrong], [wrong, *good]):
                self.raised(InvalidBed, copy_pages, FORM, 9, beds)
                self.raised(InvalidBed, copy_pages, FORM, 8, beds)


class MigrateTest(ProgramTest):

    def check(self, settings, parts, new):
        """Migrates a library with some parts."""
        primer, pages = library(settings, parts)
        result = self.pure(migrate, primer, flat(pages), new)
        self.assertEqual((tuple, str, list), (type(result), type(result[0]), type(result[1])))
        self.assertEqual(library(new, parts), result)
        self.assertEqual(write_primer(new.form, new.archive), result[0])
        found = read_archive(new.form, new.archive, flat(result[1]))
        self.assertEqual(tuple(map(tuple, parts)), found.parts)

    def test_other_settings(self):
        parts = [expander_code(), octets_of(20), [], octets_of(7, 5)]
        old = Settings(Format(20, 4), 9, 3, 1)
        for new in (old, Settings(Format(20, 4), 8, 3, 1), Settings(Format(20, 4), 9, 4, 0), Settings(FORM, 255, 12, 4),
                    Settings(Format(40, 2), 0, 1, 2)):
            self.check(old, parts, new)
            self.check(new, parts, old)

    def test_part_0_that_is_no_code(self):
        new = Settings(Format(20, 4), 200, 2, 1)
        for code in ([], [12, 0, 0], [0, 0], [255] * 20):
            self.check(SETTINGS, [code, [1, 2]], new)
            self.check(SETTINGS, [code], new)

    def test_the_code_is_not_run(self):
        # An endless code, and stored parts that are no packed lists.
        self.check(SETTINGS, [[10, 0, 0], [128, 9], [5]], Settings(Format(20, 4), 200, 2, 1))

    def test_contents(self):
        contents = [[1, 2, 3], [], octets_of(90)]
        primer, pages = publish(Settings(Format(30, 4), 1, 2, 1), contents)
        new = Settings(Format(24, 6), 2, 3, 2)
        self.assertEqual(publish(new, contents), migrate(primer, flat(pages), new))

    def test_scans_of_all_kinds(self):
        chance = random.Random(4)
        form = Format(24, 4)
        contents = [[1, 2, 3], [], octets_of(90)]
        primer, pages = publish(Settings(form, 1, 3, 1), contents)
        new_form = Format(27, 6)
        beds = unreadable_beds(chance, form, pages[:1])
        for number, page in enumerate(pages[1:], 1):
            beds += [scan_anyhow(chance, form, damaged(chance, form, page))] if number % 3 else torn_scans(chance, form, page)
        beds += flat(publish(Settings(form, 2, 3, 1), [[7]])[1])
        chance.shuffle(beds)
        new_primer, new_pages = migrate(primer, beds, Settings(new_form, 77, 1, 1))
        # Of each data page and its check page one is lost.
        half = len(new_pages) // 2
        there = [new_pages[number if chance.randrange(2) else number + half] for number in range(half)]
        found = restore(new_primer, flat(there), 100)
        self.assertEqual((tuple(map(tuple, contents)), (), ()), (found.contents, found.lost, found.refused))

    def test_lost_parts(self):
        settings = Settings(FORM, 9, 1, 0)
        primer, pages = library(settings, PARTS)
        for gone in range(len(pages)):
            beds = flat(pages[:gone] + pages[gone + 1:])
            self.raised(NoSuchPart, migrate, primer, beds, SETTINGS)
        self.assertEqual(library(SETTINGS, PARTS), migrate(primer, flat(pages), SETTINGS))

    def test_nothing_known(self):
        primer, pages = library(SETTINGS, PARTS)
        no_slice = draw_page(FORM, (9, 0, 1, 1, 0), [0] * FORM.body_size)
        for beds in ([], [[[0]]], flat([no_slice]), flat(print_archive(Settings(FORM, 8, 3, 2), PARTS))):
            self.raised(NoSuchPart, migrate, primer, beds, SETTINGS)
        self.raised(NoSuchPart, migrate, write_primer(FORM, 8), flat(pages), SETTINGS)
        self.raised(NoSuchPart, migrate, write_primer(Format(20, 8), 9), flat(pages), SETTINGS)

    def test_too_many_pages(self):
        primer, pages = library(Settings(Format(30, 4), 9, 12, 0), [octets_of(200), octets_of(100)])
        small = Format(16, 4)
        self.raised(TooManyPages, migrate, primer, flat(pages), Settings(small, 9, 12, 0))
        primer, pages = library(Settings(Format(30, 4), 9, 12, 0), [octets_of(256)])
        self.raised(TooManyPages, migrate, primer, flat(pages), Settings(small, 9, 12, 0))
        primer, pages = library(Settings(Format(30, 4), 9, 12, 0), [octets_of(128), octets_of(127)])
        self.raised(TooManyPages, migrate, primer, flat(pages), Settings(small, 9, 12, 1))
        self.assertEqual(255, len(migrate(primer, flat(pages), Settings(small, 9, 12, 0))[1]))

    def test_which_error_comes_first(self):
        primer, pages = library(Settings(Format(30, 4), 9, 1, 0), [octets_of(200), octets_of(100)])
        small = Settings(Format(16, 4), 9, 12, 0)
        beds = flat(pages)
        for text in ("", primer[:-1], primer + "\n", primer.replace("9", "09", 1)):
            for some_beds in ([], beds, beds[1:], [*beds, []], [[[3]]]):
                self.raised(PrimerError, migrate, text, some_beds, small)
        for wrong in (*NO_BEDS, [[3]]):
            for some_beds in ([wrong], [*beds, wrong], [wrong, *beds[1:]]):
                self.raised(InvalidBed, migrate, primer, some_beds, small)
        for some_beds in ([], beds[1:], beds[:-1]):
            self.raised(NoSuchPart, migrate, primer, some_beds, small)
        self.raised(TooManyPages, migrate, primer, beds, small)
