"""Points 52, 53 and 66 on whole archives that are printed, scanned and read again."""

import itertools
import random

from scanpages.archives import Settings, archive_pages, print_archive, put_together, read_archive
from scanpages.beds import laid
from scanpages.errors import InvalidArchive, InvalidBed, TooManyPages
from scanpages.formats import Format
from scanpages.labels import group_pages
from scanpages.pages import draw_page, read_page
from tests.paper import with_cells
from tests.scans import scan_anyhow, torn_scans
from tests.support import ProgramTest
from tests.test_archives import octets_of
from tests.test_beds import NO_BEDS
from tests.test_joining import torn_from

FORMS = [Format(16, 4), Format(18, 8), Format(20, 4), Format(23, 2)]


def random_parts(chance, form, count):
    """Parts of a few slices each."""
    return [[chance.randrange(256) for _ in range(chance.randrange(3 * form.capacity + 2))] for _ in range(count)]


def expected_parts(settings, parts, there):
    """What point 53 says: the parts of which all data pages are there or belong to groups that are computed."""
    pages = archive_pages(settings, parts)
    data_pages = pages[0][0][2]
    known = set(there) & set(range(data_pages))
    for group in range(-(-data_pages // settings.group)):
        numbers = group_pages(pages[0][0], group)
        if len(set(numbers) - set(there)) <= settings.checks:
            known |= set(numbers) & set(range(data_pages))
    if not known:
        return None
    found = []
    first = 0
    for part in parts:
        end = first + max(1, -(-len(part) // settings.form.capacity))
        found.append(tuple(part) if set(range(first, end)) <= known else None)
        first = end
    return tuple(found)


class PrintTest(ProgramTest):

    def test_pages(self):
        for form in FORMS:
            settings = Settings(form, 9, 2, 1)
            parts = [octets_of(5), [], octets_of(9)]
            pairs = archive_pages(settings, parts)
            pages = self.pure(print_archive, settings, parts)
            self.assertEqual([draw_page(form, *pair) for pair in pairs], pages)
            self.assertEqual(pairs, [read_page(form, page) for page in pages])

    def test_errors(self):
        settings = Settings(FORMS[0], 9, 2, 1)
        for parts in ([], [[]] * 100, [octets_of(4001)], [[256]], [[], [-1]]):
            self.raised(InvalidArchive, print_archive, settings, parts)
        self.raised(TooManyPages, print_archive, settings, [octets_of(256)])
        self.raised(TooManyPages, print_archive, settings, [octets_of(171)])
        self.assertEqual(255, len(print_archive(settings, [octets_of(170)])))


class PairsTest(ProgramTest):

    def test_any_pages_of_archives(self):
        chance = random.Random(1)
        outcomes = {None: 0, True: 0, False: 0}
        for _ in range(150):
            form = chance.choice(FORMS)
            group = chance.randrange(1, 6)
            settings = Settings(form, 9, group, chance.randrange(4))
            parts = random_parts(chance, form, chance.randrange(1, 5))
            pages = archive_pages(settings, parts)
            share = chance.random()
            there = [number for number in range(len(pages)) if chance.random() < share]
            others = archive_pages(Settings(form, 8, 3, 1), random_parts(chance, form, 2))
            pairs = [pages[number] for number in there + chance.choices(there, k=3 * bool(there))] + others
            chance.shuffle(pairs)
            found = put_together(form, 9, pairs)
            expected = expected_parts(settings, parts, there)
            self.assertEqual(expected, found.parts)
            self.assertEqual(len(pages) if there else 0, found.pages)
            missing = tuple(number for number in range(len(pages)) if there and number not in there)
            self.assertEqual(missing, found.missing)
            lost = tuple(number for number, part in enumerate(expected or ()) if part is None)
            self.assertEqual(lost, found.lost_parts)
            outcomes[None if expected is None else bool(lost)] += 1
        self.assertGreater(min(outcomes.values()), 5)


class ReadArchiveTest(ProgramTest):

    def test_scans_in_any_order(self):
        chance = random.Random(2)
        for form, (group, checks) in itertools.product(FORMS, ((1, 0), (1, 2), (3, 1), (5, 3))):
            settings = Settings(form, 9, group, checks)
            parts = random_parts(chance, form, 3)
            pages = print_archive(settings, parts)
            beds = [scan_anyhow(chance, form, page) for page in pages + chance.choices(pages, k=3)]
            chance.shuffle(beds)
            found = self.pure(read_archive, form, 9, beds)
            self.assertEqual((tuple(map(tuple, parts)), len(pages), ()), (found.parts, found.pages, found.missing))
            other = self.pure(read_archive, form, 8, beds)
            self.assertEqual((None, 0, ()), (other.parts, other.pages, other.missing))

    def test_scans_of_all_kinds(self):
        chance = random.Random(3)
        for form in FORMS * 3:
            settings = Settings(form, 9, 3, 1)
            parts = random_parts(chance, form, 4)
            pages = print_archive(settings, parts)
            there = [number for number in range(len(pages)) if chance.random() < 0.7]
            beds = []
            for number in there:
                if chance.randrange(3) == 0:
                    # Two torn scans of which each is partly readable, and which are read together.
                    beds += torn_scans(chance, form, pages[number])
                else:
                    beds.append(scan_anyhow(chance, form, pages[number]))
            gone = [number for number in range(len(pages)) if number not in there]
            beds += [scan_anyhow(chance, form, torn_from(form, pages[number], 4)) for number in gone]
            beds += [scan_anyhow(chance, form, with_cells(pages[number], [((1, at), 2) for at in range(form.side)]
                                                          + [((at, 1), 2) for at in range(form.side)]))
                     for number in gone]
            beds += [[[0] * 30 for _ in range(30)], [[2]]]
            others = print_archive(Settings(form, 10, 2, 1), random_parts(chance, form, 2))
            beds += [scan_anyhow(chance, form, page) for page in others]
            chance.shuffle(beds)
            found = self.pure(read_archive, form, 9, beds)
            self.assertEqual(expected_parts(settings, parts, there), found.parts)
            self.assertEqual(tuple(gone) if there else (), found.missing)
            self.assertEqual(len(pages) if there else 0, found.pages)

    def test_the_first_of_two_scans_counts(self):
        form = FORMS[1]
        chance = random.Random(4)
        pages = [print_archive(Settings(form, 9, 1, 0), [[number]])[0] for number in range(2)]
        beds = [scan_anyhow(chance, form, page) for page in pages]
        self.assertEqual(((0,),), read_archive(form, 9, beds).parts)
        self.assertEqual(((1,),), read_archive(form, 9, beds[::-1]).parts)
        # A scan that is read comes before scans that are joined.
        torn = torn_scans(chance, form, pages[0])
        self.assertEqual(((0,),), read_archive(form, 9, torn).parts)
        self.assertEqual(((1,),), read_archive(form, 9, [*torn, beds[1]]).parts)

    def test_no_scans(self):
        for form in FORMS:
            found = self.pure(read_archive, form, 9, [])
            self.assertEqual((None, 0, (), ()), (found.parts, found.pages, found.missing, found.lost_parts))

    def test_no_beds(self):
        form = FORMS[0]
        good = laid(print_archive(Settings(form, 9, 1, 0), [[5]])[0], 0, 20, 20, 0, 0)
        for wrong in (*NO_BEDS, [[3]]):
            for beds in ([wrong], [good, wrong], [wrong, good]):
                self.raised(InvalidBed, read_archive, form, 9, beds)

    def test_a_large_archive(self):
        form = Format(40, 4)
        settings = Settings(form, 255, 11, 1)
        parts = [octets_of(4000, seed) for seed in range(6)]
        pages = print_archive(settings, parts)
        beds = [laid(page, number % 8, 60, 60, number % 21, number * 7 % 21) for number, page in enumerate(pages)]
        found = read_archive(form, 255, beds[::-1][1:])
        self.assertEqual(tuple(map(tuple, parts)), found.parts)
        self.assertEqual((len(pages) - 1,), found.missing)
