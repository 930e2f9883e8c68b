"""Point 74, with points 23 to 26, 29 and 56."""

import random

from scanpages.archives import Settings, archive_pages
from scanpages.codecs import codec_code, publish_with, stored
from scanpages.compression import pack
from scanpages.errors import InvalidArchive, InvalidCode, TooManyPages
from scanpages.expander import expand_by_machine
from scanpages.formats import Format
from scanpages.machine import check_code, run
from scanpages.pages import draw_page
from scanpages.primer import write_primer
from scanpages.restoring import publish, restore
from tests.scans import scan_anyhow, torn_scans
from tests.support import ProgramTest, lists_over

NAMES = ("plain", "packed", "steps")
NO_NAMES = ("", "Plain", "plain ", " steps", "step", "pack", "zip", "packed\n", "plain packed")
FORM = Format(30, 4)
SETTINGS = Settings(FORM, 7, 3, 1)


def slow_steps(octets):
    """What the codec of steps stores."""
    result = []
    before = 0
    for octet in octets:
        result.append((octet - before + 256) % 256)
        before = octet
    return result


def contents_for_tests():
    """Contents of all kinds."""
    chance = random.Random(1)
    yield from ([], [0], [255], [1], [128])
    yield from (list(range(256)), list(range(255, -1, -1)), [0] * 300, [255] * 300, [7] * 3)
    yield from ([0, 255] * 40, [255, 0] * 40, [0, 128, 0, 127, 255, 1], list(range(0, 256, 5)) * 3)
    yield [chance.randrange(256) for _ in range(500)]
    yield [chance.randrange(3) for _ in range(500)]


class StoredTest(ProgramTest):

    def check(self, name, octets, expected):
        """Stores a content, and undoes it within the steps that have to be sufficient."""
        found = self.pure(stored, name, octets)
        self.assertEqual(expected, found)
        code = codec_code(name)
        result = run(code, found, 12 * (len(found) + len(octets)) + 12)
        self.assertEqual(("done", tuple(octets)), (result.word, result.output))
        self.assertEqual(octets, expand_by_machine(code, found, len(octets)))
        self.assertEqual(octets, expand_by_machine(code, found, 4000))
        if octets:
            self.assertIsNone(expand_by_machine(code, found, len(octets) - 1))

    def test_example(self):
        self.assertEqual([5, 2, 255], stored("steps", [5, 7, 6]))

    def test_contents(self):
        for octets in contents_for_tests():
            self.check("plain", octets, octets)
            self.check("packed", octets, pack(octets))
            self.check("steps", octets, slow_steps(octets))

    def test_all_short_contents(self):
        for octets in lists_over([0, 1, 127, 128, 255], 4):
            self.check("plain", octets, octets)
            self.check("packed", octets, pack(octets))
            self.check("steps", octets, slow_steps(octets))

    def test_steps(self):
        self.check("steps", [1, 2, 3, 4], [1, 1, 1, 1])
        self.check("steps", [9, 9, 9], [9, 0, 0])
        self.check("steps", [3, 2, 1], [3, 255, 255])
        self.check("steps", [0, 255, 0, 255], [0, 255, 1, 255])
        self.check("steps", [255, 254], [255, 255])

    def test_a_content_of_the_greatest_length(self):
        chance = random.Random(2)
        for octets in ([255] * 4000, [chance.randrange(256) for _ in range(4000)]):
            self.check("plain", octets, octets)
            self.check("packed", octets, pack(octets))
            self.check("steps", octets, slow_steps(octets))

    def test_the_result_is_new(self):
        octets = [1, 2, 3]
        stored("plain", octets).append(4)
        self.assertEqual([1, 2, 3], octets)

    def test_unknown_words(self):
        for name in NO_NAMES:
            for octets in ([], [1, 2]):
                self.raised(InvalidCode, stored, name, octets)


class CodeTest(ProgramTest):

    def test_codes(self):
        for name in NAMES:
            code = self.pure(codec_code, name)
            self.assertIsInstance(code, list)
            self.assertLessEqual(check_code(code), 60)
        self.assertEqual(3, len({tuple(codec_code(name)) for name in NAMES}))

    def test_unknown_words(self):
        for name in NO_NAMES:
            self.raised(InvalidCode, codec_code, name)


class PublishTest(ProgramTest):

    def test_the_library(self):
        contents = [[1, 2, 3], [], [9] * 50]
        for name in NAMES:
            for settings in (SETTINGS, Settings(Format(21, 2), 255, 5, 2)):
                result = self.pure(publish_with, settings, name, contents)
                self.assertEqual((tuple, str, list), (type(result), type(result[0]), type(result[1])))
                primer, pages = result
                self.assertEqual(write_primer(settings.form, settings.archive), primer)
                pairs = archive_pages(settings, [codec_code(name), *[stored(name, content) for content in contents]])
                self.assertEqual([draw_page(settings.form, *pair) for pair in pairs], pages)

    def test_restored(self):
        chance = random.Random(3)
        contents = [octets for octets in contents_for_tests() if len(octets) < 400]
        for name in NAMES:
            primer, pages = publish_with(Settings(FORM, 7, 4, 2), name, contents)
            beds = []
            for number, page in enumerate(pages):
                # Of each group of four some pages are lost, and one is torn.
                if number % 4 == 1:
                    beds += torn_scans(chance, FORM, page)
                elif number % 4 != 2 or number < 4:
                    beds.append(scan_anyhow(chance, FORM, page))
            chance.shuffle(beds)
            found = restore(primer, beds, 400)
            self.assertEqual(tuple(codec_code(name)), found.code)
            self.assertEqual(((), ()), (found.lost, found.refused))
            self.assertEqual(tuple(map(tuple, contents)), found.contents)

    def test_the_limit(self):
        contents = [[5] * 10, [6] * 11]
        for name in NAMES:
            primer, pages = publish_with(SETTINGS, name, contents)
            found = restore(primer, [scan_anyhow(random.Random(4), FORM, page) for page in pages], 10)
            self.assertEqual((((5,) * 10, None), (), (2,)), (found.contents, found.lost, found.refused))

    def test_packed_is_what_is_published(self):
        contents = [[1, 2, 3], [], [9] * 50]
        self.assertEqual(publish(SETTINGS, contents), publish_with(SETTINGS, "packed", contents))

    def test_errors(self):
        small = Settings(Format(16, 4), 0, 12, 0)
        refused = [[[]] * 99, [[1] * 4001], [[256]], [[-1]], [[1, 2], [3, 10 ** 5000]]]
        for name in NO_NAMES:
            for contents in ([], [[1]], *refused):
                self.raised(InvalidCode, publish_with, SETTINGS, name, contents)
                self.raised(InvalidCode, publish_with, small, name, contents)
        for name in NAMES:
            for contents in refused:
                if name != "packed" or contents != [[1] * 4001]:
                    self.raised(InvalidArchive, publish_with, SETTINGS, name, contents)
            chance = random.Random(5)
            octets = [chance.randrange(256) for _ in range(300)]
            self.raised(TooManyPages, publish_with, small, name, [octets])
            self.raised(InvalidArchive, publish_with, small, name, [octets, [256]])
            self.assertTrue(publish_with(small, name, [[1]] * 2))
        # Packed, the same octets make a part that is short enough.
        self.assertTrue(publish_with(SETTINGS, "packed", [[1] * 4001]))
