"""Points 56, 57 and 58, with points 52, 53, 66 and 67."""

import random

from scanpages.archives import Settings, archive_pages
from scanpages.assembly import assemble
from scanpages.beds import laid
from scanpages.compression import expand, pack
from scanpages.errors import InvalidArchive, InvalidBed, PrimerError, TooManyPages
from scanpages.expander import expander_code
from scanpages.formats import Format
from scanpages.pages import draw_page
from scanpages.primer import write_primer
from scanpages.restoring import Recovered, publish, restore
from tests.scans import damaged, library, scan_anyhow, torn_scans, unreadable_beds
from tests.support import ProgramTest
from tests.test_archives import octets_of
from tests.test_beds import NO_BEDS
from tests.test_scanning import expected_parts

FORM = Format(30, 4)
SETTINGS = Settings(FORM, 7, 3, 1)
SINGLE = Settings(FORM, 7, 1, 0)
COPIES = assemble("next: \n read 0 end \n write 0 \n jump next \n end: \n halt")


def flat(pages, margin=2):
    """A bed for each page."""
    length = len(pages[0]) + 2 * margin
    return [laid(page, 0, length, length, margin, margin) for page in pages]


class RecoveredTest(ProgramTest):

    def test_attributes(self):
        code, contents, lost, refused = [1, 2], [[3], None, []], [4], [5, 6]
        found = Recovered(code, contents, lost, refused)
        code.append(9)
        contents[0].append(9)
        contents.append([9])
        lost.append(9)
        refused.append(9)
        self.assertEqual(((1, 2), ((3,), None, ()), (4,), (5, 6)),
                         (found.code, found.contents, found.lost, found.refused))

    def test_nothing(self):
        found = Recovered(None, (), (), ())
        self.assertEqual((None, (), (), ()), (found.code, found.contents, found.lost, found.refused))


class PublishTest(ProgramTest):

    def test_the_library(self):
        for contents in ([], [[]], [[1, 2, 3], [], [7] * 300, octets_of(100)]):
            for settings in (SETTINGS, Settings(Format(20, 6), 255, 4, 3)):
                primer, pages = self.pure(publish, settings, contents)
                self.assertEqual(write_primer(settings.form, settings.archive), primer)
                parts = [expander_code()] + [pack(content) for content in contents]
                pairs = archive_pages(settings, parts)
                self.assertEqual([draw_page(settings.form, *pair) for pair in pairs], pages)

    def test_the_result(self):
        result = publish(SETTINGS, [[5]])
        self.assertEqual((tuple, str, list), (type(result), type(result[0]), type(result[1])))

    def test_errors(self):
        settings = Settings(Format(40, 2), 0, 12, 0)
        self.assertTrue(publish(settings, [[]] * 98))
        self.raised(InvalidArchive, publish, settings, [[]] * 99)
        chance = random.Random(1)
        octets = [chance.randrange(256) for _ in range(4000)]
        self.assertGreater(len(pack(octets)), 4000)
        # Not the contents are bounded, but the parts.
        self.raised(InvalidArchive, publish, settings, [octets])
        self.assertTrue(publish(settings, [[9] * 5000]))
        for wrong in (-1, 256, 10 ** 5000, -10 ** 5000):
            for contents in ([[wrong]], [[1], [2, 2, 2, 2, wrong]], [[wrong] * 10]):
                self.raised(InvalidArchive, publish, settings, contents)
        small = Settings(Format(16, 4), 0, 12, 0)
        self.raised(TooManyPages, publish, small, [octets[:300]])
        self.raised(TooManyPages, publish, small, [octets[:100], octets[:100]])
        self.raised(InvalidArchive, publish, small, [octets[:300], [256]])


class RestoreTest(ProgramTest):

    def check(self, primer, beds, limit, expected):
        """Restores, and compares everything: the code, the contents, and the lost and refused parts."""
        found = self.pure(restore, primer, beds, limit)
        self.assertIsInstance(found, Recovered)
        code, contents, lost, refused = expected
        code = None if code is None else tuple(code)
        contents = tuple(None if content is None else tuple(content) for content in contents)
        self.assertEqual((code, contents, lost, refused), (found.code, found.contents, found.lost, found.refused))

    def check_parts(self, parts, limit, contents, refused, settings=SINGLE):
        """Restores a library with any parts, of which all pages are there."""
        primer, pages = library(settings, parts)
        self.check(primer, flat(pages), limit, (parts[0], contents, (), refused))

    def test_published_contents(self):
        for contents in ([], [[]], [[], []], [[1, 2, 3]], [[0], [], [255] * 200, octets_of(60)]):
            for settings in (SETTINGS, SINGLE, Settings(Format(23, 2), 0, 12, 4)):
                primer, pages = publish(settings, contents)
                self.check(primer, flat(pages), 200, (expander_code(), contents, (), ()))

    def test_the_limit(self):
        contents = [[5] * 9, [6] * 10, [7] * 11, []]
        primer, pages = publish(SETTINGS, contents)
        beds = flat(pages)
        self.check(primer, beds, 4000, (expander_code(), contents, (), ()))
        self.check(primer, beds, 11, (expander_code(), contents, (), ()))
        self.check(primer, beds, 10, (expander_code(), [*contents[:2], None, []], (), (3,)))
        self.check(primer, beds, 9, (expander_code(), [contents[0], None, None, []], (), (2, 3)))
        self.check(primer, beds, 1, (expander_code(), [None, None, None, []], (), (1, 2, 3)))
        self.check(primer, beds, 0, (expander_code(), [None, None, None, []], (), (1, 2, 3)))

    def test_a_content_of_the_greatest_length(self):
        contents = [[3] * 4000, [3] * 4001]
        primer, pages = publish(SETTINGS, contents)
        self.check(primer, flat(pages), 4000, (expander_code(), [contents[0], None], (), (2,)))

    def test_the_code_on_the_pages_is_used(self):
        self.check_parts([COPIES, [5, 6], [], [200, 1]], 5, [[5, 6], [], [200, 1]], ())
        twice = assemble("next: \n read 0 end \n write 0 \n write 0 \n jump next \n end: \n halt")
        self.check_parts([twice, [5, 6], []], 5, [[5, 5, 6, 6], []], ())
        constant = assemble("set 3 9 \n write 3 \n write 3 \n halt")
        self.check_parts([constant, [5, 6], []], 5, [[9, 9], [9, 9]], ())

    def test_codes_that_write_up_to_the_limit_and_more(self):
        for limit in (0, 1, 2, 7, 20):
            for count in (max(0, limit - 1), limit, limit + 1):
                code = assemble("write 0 \n" * count + "halt")
                content = [0] * count if count <= limit else None
                self.check_parts([code, [], [1, 2]], limit, [content, content], () if count <= limit else (1, 2))

    def test_codes_that_are_cut(self):
        for endless in ("again: \n jump again", "again: \n write 0 \n jump again"):
            self.check_parts([assemble(endless), [], [1, 2, 3]], 50, [None, None], (1, 2))
        # Only the first part is long enough for the step bound.
        slow = assemble("set 0 0 \n" * 47 + "halt")
        self.check_parts([slow, [1, 2, 3], [1, 2]], 0, [[], None], (2,))
        self.check_parts([slow, [1, 2, 3], [1, 2]], 1, [[], []], ())

    def test_codes_that_fail(self):
        self.check_parts([assemble("write 0 \n fail"), [], [1]], 50, [None, None], (1, 2))
        self.check_parts([assemble("write 0"), [], [1]], 50, [None, None], (1, 2))
        self.check_parts([assemble("read 0 end \n fail \n end: \n halt"), [], [1]], 50, [[], None], (2,))

    def test_part_0_is_no_code(self):
        for code in ([], [0], [0, 0], [12, 0, 0], [255, 255, 255], [10, 0, 1], [7, 0, 1], [0, 1, 0], [8, 8, 0],
                     [0, 0, 0, 10, 0, 2], [0, 0, 0] * 256, expander_code()[:-1]):
            self.check_parts([code, [], [1, 2]], 50, [None, None], (1, 2))
            self.check_parts([code], 50, [], ())

    def test_stored_parts_that_are_no_packed_lists(self):
        parts = [expander_code(), [0], [0, 7], [128, 1], [0, 7, 128, 2], [0, 7, 128, 1], [5, 1]]
        contents = [None, [7], None, None, [7] * 4, None]
        self.check_parts(parts, 50, contents, (1, 3, 4, 6))
        self.assertEqual([7] * 4, expand(parts[5], 50))

    def lost(self, parts, *numbers):
        """The primer of a library, and the beds of all pages of which none belongs to the given parts."""
        primer, pages = library(SINGLE, parts)
        beds = []
        first = 0
        for number, part in enumerate(parts):
            end = first + max(1, -(-len(part) // FORM.capacity))
            if number not in numbers:
                beds += flat(pages[first:end])
            first = end
        return primer, beds

    def test_lost_parts(self):
        contents = [[1, 2, 3], [], octets_of(60)]
        parts = [expander_code(), *[pack(content) for content in contents]]
        self.check(*self.lost(parts, 1), 99, (parts[0], [None, [], contents[2]], (1,), ()))
        self.check(*self.lost(parts, 3), 99, (parts[0], [[1, 2, 3], [], None], (3,), ()))
        self.check(*self.lost(parts, 1, 2, 3), 99, (parts[0], [None] * 3, (1, 2, 3), ()))
        self.check(*self.lost(parts, 1, 2), 5, (parts[0], [None] * 3, (1, 2), (3,)))

    def test_part_0_lost(self):
        contents = [[1, 2, 3], [], octets_of(60)]
        parts = [expander_code(), *[pack(content) for content in contents]]
        self.check(*self.lost(parts, 0), 99, (None, [None] * 3, (0,), (1, 2, 3)))
        self.check(*self.lost(parts, 0, 2), 99, (None, [None] * 3, (0, 2), (1, 3)))
        self.check(*self.lost(parts, 0, 1, 3), 99, (None, [None] * 3, (0, 1, 3), (2,)))
        # One page of two is enough to lose the part.
        primer, pages = library(SINGLE, parts)
        self.check(primer, flat(pages[1:]), 99, (None, [None] * 3, (0,), (1, 2, 3)))

    def test_nothing_known(self):
        nothing = (None, [], (), ())
        primer, pages = publish(SETTINGS, [[1, 2, 3]])
        self.check(primer, [], 99, nothing)
        self.check(primer, [[[0]], [[2] * 60] * 60], 99, nothing)
        self.check(write_primer(FORM, 8), flat(pages), 99, nothing)
        self.check(write_primer(Format(30, 6), 7), flat(pages), 99, nothing)
        self.check(write_primer(Format(31, 4), 7), flat(pages), 99, nothing)
        # A page of the archive is there, but it says nothing of parts.
        no_slice = draw_page(FORM, (7, 0, 1, 1, 0), [0] * FORM.body_size)
        self.check(primer, flat([no_slice]), 99, nothing)

    def test_any_order_and_any_number(self):
        contents = [[1, 2, 3], octets_of(60)]
        primer, pages = publish(SETTINGS, contents)
        expected = (expander_code(), contents, (), ())
        beds = flat(pages)
        self.check(primer, beds[::-1], 99, expected)
        self.check(primer, beds + beds[::-1] + beds, 99, expected)
        self.check(primer, [bed for bed in beds for _ in range(2)], 99, expected)

    def test_errors(self):
        primer, pages = publish(SETTINGS, [[1, 2, 3]])
        good = flat(pages)
        for wrong in (*NO_BEDS, [[3]]):
            for beds in ([wrong], [*good, wrong], [wrong, *good]):
                self.raised(InvalidBed, restore, primer, beds, 99)
                self.raised(PrimerError, restore, primer + "\n", beds, 99)
        for text in ("", primer[:-1], primer.replace("7", "07", 1)):
            self.raised(PrimerError, restore, text, good, 99)
            self.raised(PrimerError, restore, text, [], 99)


class ScansTest(ProgramTest):
    """Point 58: libraries whose pages are scanned in all ways."""

    def beds_for(self, chance, settings, pages, there):
        """Beds that show the pages that are there, and beds that give nothing of the others."""
        form = settings.form
        beds = []
        for number in there:
            kind = chance.randrange(4)
            if kind == 0:
                beds += torn_scans(chance, form, pages[number])
            else:
                page = pages[number] if kind == 1 else damaged(chance, form, pages[number])
                beds += [scan_anyhow(chance, form, page) for _ in range(chance.randrange(1, 3))]
        beds += unreadable_beds(chance, form, [page for number, page in enumerate(pages) if number not in there])
        others = publish(Settings(form, (settings.archive + 1) % 256, 2, 1), [octets_of(30, 5)])[1]
        beds += [scan_anyhow(chance, form, page) for page in others]
        chance.shuffle(beds)
        return beds

    def test_scans_of_all_kinds(self):
        chance = random.Random(6)
        outcomes = {"whole": 0, "lost": 0, "refused": 0, "nothing": 0}
        for _ in range(45):
            form = chance.choice((Format(24, 4), Format(30, 4), Format(27, 8), Format(21, 2)))
            settings = Settings(form, chance.randrange(256), chance.randrange(1, 5), chance.randrange(3))
            contents = [[chance.randrange(4) for _ in range(chance.randrange(150))] for _ in range(3)]
            primer, pages = publish(settings, contents)
            share = chance.choice((0, 0.2, 0.8, 0.9, 1))
            there = [number for number in range(len(pages)) if chance.random() < share]
            beds = self.beds_for(chance, settings, pages, there)
            parts = expected_parts(settings, [expander_code(), *map(pack, contents)], there)
            limit = chance.choice((50, 150))
            found = restore(primer, beds, limit)
            if parts is None:
                self.assertEqual((None, (), (), ()), (found.code, found.contents, found.lost, found.refused))
                outcomes["nothing"] += 1
                continue
            self.assertEqual(parts[0], found.code)
            self.assertEqual(tuple(number for number, part in enumerate(parts) if part is None), found.lost)
            for number, content in enumerate(contents, 1):
                if parts[number] is None:
                    self.assertIsNone(found.contents[number - 1])
                    outcomes["lost"] += 1
                elif parts[0] is None or len(content) > limit:
                    self.assertIsNone(found.contents[number - 1])
                    self.assertIn(number, found.refused)
                    outcomes["refused"] += 1
                else:
                    self.assertEqual(tuple(content), found.contents[number - 1])
                    self.assertNotIn(number, found.refused)
                    outcomes["whole"] += 1
            self.assertEqual(3, len(found.contents))
        self.assertGreater(min(outcomes.values()), 3, outcomes)
