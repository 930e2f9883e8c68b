"""Point 75, with points 52 and 66."""

import random

from scanpages.archives import Settings, archive_pages, print_archive
from scanpages.errors import InvalidBed
from scanpages.formats import Format
from scanpages.labels import group_pages
from scanpages.pages import draw_page
from scanpages.reports import report
from tests.scans import damaged, scan_anyhow, torn_scans, unreadable_beds
from tests.support import ProgramTest
from tests.test_archives import octets_of
from tests.test_beds import NO_BEDS
from tests.test_joining import torn_from
from tests.test_restoring import flat
from tests.test_scanning import expected_parts, random_parts

FORM = Format(18, 8)
# With three octets on a page, these are the data pages 0 to 2 of part 0, 3 of part 1, and 4 to 6 of part 2. The groups
# are 0 1 2, 3 4 5 and 6, and the check pages 7 to 12.
SETTINGS = Settings(FORM, 9, 3, 2)
PARTS = [octets_of(8), [], octets_of(7, 3)]
PAGES = 13


def expected_report(settings, parts, there):
    """The report in the words of the document, if the pages that are there are read."""
    pairs = archive_pages(settings, parts)
    label = pairs[0][0]
    if not there:
        return "nothing\n"
    lines = {}
    for group in range(-(-label[2] // settings.group)):
        numbers = group_pages(label, group)
        enough = sum(1 for number in numbers if number in there) >= len(numbers) - settings.checks
        for number in numbers:
            lines[number] = "read" if number in there else "computed" if enough else "lost"
    text = "".join(f"{number} {lines[number]}\n" for number in range(len(pairs)))
    found = expected_parts(settings, parts, there)
    if found is None:
        return text + "parts unknown\n"
    return text + "".join(f"part {number} {'lost' if part is None else 'whole'}\n" for number, part in enumerate(found))


class ReportTest(ProgramTest):

    def setUp(self):
        self.pages = print_archive(SETTINGS, PARTS)

    def check(self, there, beds=None):
        """Reports on some pages."""
        beds = flat([self.pages[number] for number in there] or [[[0]]]) if beds is None else beds
        found = self.pure(report, FORM, 9, beds)
        self.assertEqual(expected_report(SETTINGS, PARTS, there), found)
        return found

    def test_everything_is_read(self):
        found = self.check(range(PAGES))
        self.assertEqual("".join(f"{number} read\n" for number in range(PAGES))
                         + "part 0 whole\npart 1 whole\npart 2 whole\n", found)

    def test_read_computed_and_lost_pages(self):
        found = self.check([0, 7, 8, 3, 11, 4])
        self.assertEqual("0 read\n1 computed\n2 computed\n3 read\n4 read\n5 lost\n6 computed\n7 read\n8 read\n9 lost\n"
                         "10 lost\n11 read\n12 computed\npart 0 whole\npart 1 whole\npart 2 lost\n", found)

    def test_all_sets_of_pages_of_a_small_archive(self):
        settings = Settings(FORM, 9, 2, 1)
        parts = [octets_of(3), octets_of(4)]
        pages = print_archive(settings, parts)
        self.assertEqual(5, len(pages))
        for bits in range(32):
            there = [number for number in range(5) if bits >> number & 1]
            beds = flat([pages[number] for number in there] or [[[0]]])
            self.assertEqual(expected_report(settings, parts, there), report(FORM, 9, beds))

    def test_nothing(self):
        self.assertEqual("nothing\n", self.check([], []))
        self.assertEqual("nothing\n", self.check([], [[[0]], [[2] * 60] * 60]))
        self.assertEqual("nothing\n", report(FORM, 8, flat(self.pages)))
        self.assertEqual("nothing\n", report(Format(20, 8), 9, flat(self.pages)))

    def test_check_pages_alone(self):
        self.assertEqual("0 lost\n1 lost\n2 lost\n3 lost\n4 lost\n5 lost\n6 lost\n7 read\n8 read\n9 lost\n10 lost\n11 lost\n"
                         "12 lost\nparts unknown\n", self.check([7, 8]))
        found = self.check([7, 8, 9, 10, 11, 12])
        self.assertIn("6 computed\n", found)
        self.assertTrue(found.endswith("12 read\npart 0 lost\npart 1 lost\npart 2 lost\n"))

    def test_data_pages_that_are_no_slices(self):
        pages = [draw_page(FORM, (9, number, 2, 1, 1), [number] * FORM.body_size) for number in range(2)]
        self.assertEqual("0 read\n1 read\n2 computed\n3 computed\nparts unknown\n", report(FORM, 9, flat(pages)))

    def test_repeated_scans_and_scans_of_another_archive(self):
        others = print_archive(Settings(FORM, 8, 1, 1), [octets_of(40)])
        beds = flat(others + [self.pages[number] for number in (3, 0, 3, 5, 0)] + others)
        self.check([0, 3, 5], beds)

    def test_the_first_page_determines_the_numbers(self):
        other = print_archive(Settings(FORM, 9, 2, 1), [octets_of(3)])
        self.check([0, 3], flat([self.pages[3], *other, self.pages[0]]))
        found = report(FORM, 9, flat([*other, *self.pages]))
        self.assertEqual("0 read\n1 read\npart 0 whole\n", found)

    def test_torn_and_joined_scans(self):
        chance = random.Random(1)
        beds = torn_scans(chance, FORM, self.pages[4]) + torn_scans(chance, FORM, self.pages[10])
        beds.append(scan_anyhow(chance, FORM, torn_from(FORM, self.pages[5], 3)))
        chance.shuffle(beds)
        found = self.check([4, 10], beds)
        self.assertIn("4 read\n5 lost\n", found)

    def test_scans_of_all_kinds(self):
        chance = random.Random(2)
        words = {"read": 0, "computed": 0, "lost": 0, "whole": 0, "unknown": 0, "nothing": 0}
        for _ in range(90):
            form = chance.choice((Format(16, 4), FORM, Format(20, 4)))
            settings = Settings(form, 9, chance.randrange(1, 5), chance.randrange(3))
            parts = random_parts(chance, form, chance.randrange(1, 4))
            pages = print_archive(settings, parts)
            share = chance.choice((0, 0.1, 0.5, 0.7, 1))
            there = [number for number in range(len(pages)) if chance.random() < share]
            beds = [scan_anyhow(chance, form, damaged(chance, form, pages[number])) for number in there]
            beds += unreadable_beds(chance, form, [page for number, page in enumerate(pages) if number not in there])
            chance.shuffle(beds)
            found = report(form, 9, beds)
            self.assertEqual(expected_report(settings, parts, there), found)
            for word in words:
                words[word] += f"{word}\n" in found
        self.assertGreater(min(words.values()), 0, words)

    def test_no_beds(self):
        good = flat(self.pages)
        for wrong in (*NO_BEDS, [[3]]):
            for beds in ([wrong], [*good, wrong], [wrong, *good]):
                self.raised(InvalidBed, report, FORM, 9, beds)
                self.raised(InvalidBed, report, FORM, 8, beds)
