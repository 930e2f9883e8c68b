"""Points 59 and 60."""

import random

from scanpages.archives import Settings
from scanpages.collection import Opened, catalogue, open_collection, publish_collection
from scanpages.compression import pack
from scanpages.encoding import decode_volume, encode_volume
from scanpages.errors import InvalidArchive, InvalidBed, PrimerError, TooManyPages
from scanpages.expander import expander_code
from scanpages.formats import Format
from scanpages.restoring import publish
from scanpages.versions import History, encode_history
from tests.scans import library, scan_anyhow
from tests.support import ProgramTest, plain
from tests.test_beds import NO_BEDS
from tests.test_restoring import flat

FORM = Format(30, 4)
SETTINGS = Settings(FORM, 7, 3, 1)
SINGLE = Settings(FORM, 7, 1, 0)


def history_of(*versions):
    """A history with some versions."""
    history = History(versions[0])
    for octets in versions[1:]:
        history.record(octets)
    return history


def histories():
    """Some histories for tests."""
    return [history_of([1, 2, 3]), history_of([], [5], []), history_of([4] * 20, [4] * 10, [4] * 10 + [9])]


def collection():
    """A collection for tests."""
    return list(zip(("a", "b-2", "c.txt"), histories()))


def table(*rows):
    """A catalogue with some rows."""
    return ("table", ("name", "versions", "octets"), rows)


class CatalogueTest(ProgramTest):

    def test_rows(self):
        self.assertEqual(table(), self.pure(catalogue, []))
        self.assertEqual(table(("a", "1", "3"), ("b-2", "3", "0"), ("c.txt", "3", "11")),
                         self.pure(catalogue, collection()))

    def test_numbers_of_versions_and_of_octets(self):
        for versions, octets in ((1, 0), (1, 9), (2, 10), (9, 99), (10, 100), (12, 1234)):
            history = history_of(*[[number] * 3 for number in range(versions - 1)], [7] * octets)
            self.assertEqual(table(("x", str(versions), str(octets))), catalogue([("x", history)]))

    def test_shortened_histories(self):
        history = history_of([1], [1, 2], [1, 2, 3])
        history.shorten(2)
        self.assertEqual(table(("x", "1", "3")), catalogue([("x", history)]))

    def test_the_kinds_of_values(self):
        found = catalogue(collection())
        self.assertEqual(found, decode_volume(encode_volume(found)))
        self.assertEqual((tuple, tuple, tuple), (type(found), type(found[2]), type(found[2][0])))


class PublishTest(ProgramTest):

    def test_the_library(self):
        for pairs in ([], collection()[:1], collection()):
            contents = [encode_volume(catalogue(pairs)), *[encode_history(history) for _, history in pairs]]
            for settings in (SETTINGS, Settings(Format(36, 6), 255, 12, 4)):
                result = self.pure(publish_collection, settings, pairs)
                self.assertEqual(publish(settings, contents), result)
                self.assertEqual((tuple, str, list), (type(result), type(result[0]), type(result[1])))

    def test_the_histories_stay(self):
        pairs = collection()
        publish_collection(SETTINGS, pairs)
        self.assertEqual(plain(collection()), plain(pairs))

    def test_errors(self):
        pairs = [(f"n{number:02}", History([])) for number in range(98)]
        large = Settings(Format(40, 2), 1, 12, 0)
        self.assertTrue(publish_collection(large, pairs[:97]))
        self.raised(InvalidArchive, publish_collection, large, pairs)
        for wrong in (-1, 256):
            self.raised(InvalidArchive, publish_collection, large, [("a", History([wrong]))])
        chance = random.Random(1)
        octets = [chance.randrange(256) for _ in range(4000)]
        self.raised(InvalidArchive, publish_collection, large, [("a", History(octets))])
        self.raised(TooManyPages, publish_collection, Settings(Format(16, 4), 1, 12, 0), [("a", History(octets[:255]))])


class OpenedTest(ProgramTest):

    def test_attributes(self):
        pairs = [("a", history_of([1], [2])), (None, None), ("c", None), (None, history_of([3]))]
        lost = [0, 3]
        found = Opened(table(("a", "2", "1")), pairs, lost)
        expected = plain((table(("a", "2", "1")), tuple(pairs), (0, 3)))
        pairs[0][1].record([4])
        pairs[3][1].record([5])
        pairs.append(("d", None))
        lost.append(9)
        self.assertEqual(expected, plain((found.catalogue, found.histories, found.lost)))
        self.assertEqual(2, len(found.histories[0][1]))

    def test_nothing(self):
        found = Opened(None, [], [])
        self.assertEqual((None, (), ()), (found.catalogue, found.histories, found.lost))


class OpenTest(ProgramTest):

    def check(self, primer, beds, limit, expected):
        """Opens a collection and compares the catalogue, the names and the histories, and the lost parts."""
        found = self.pure(open_collection, primer, beds, limit)
        self.assertIsInstance(found, Opened)
        self.assertEqual(plain(expected), plain((found.catalogue, found.histories, found.lost)))
        for pair in found.histories:
            self.assertIsInstance(pair, tuple)
        return found

    def test_collections(self):
        for pairs in ([], collection()[:1], collection()):
            for settings in (SETTINGS, Settings(Format(36, 6), 255, 12, 4)):
                primer, pages = publish_collection(settings, pairs)
                found = self.check(primer, flat(pages), 400, (catalogue(pairs), tuple(pairs), ()))
                for (_, history), (_, before) in zip(found.histories, pairs):
                    self.assertIsInstance(history, History)
                    self.assertEqual(len(before), len(history))
                    for number in range(len(before)):
                        self.assertEqual(before.version(number), history.version(number))

    def test_any_order(self):
        chance = random.Random(2)
        pairs = collection()
        primer, pages = publish_collection(SETTINGS, pairs)
        beds = [scan_anyhow(chance, FORM, page) for page in pages * 2]
        chance.shuffle(beds)
        self.check(primer, beds, 400, (catalogue(pairs), tuple(pairs), ()))

    def part_beds(self, pairs, *lost):
        """The primer of a collection, and the beds of all pages that do not belong to some parts."""
        primer, pages = publish_collection(SINGLE, pairs)
        contents = [encode_volume(catalogue(pairs)), *[encode_history(history) for _, history in pairs]]
        numbers = []
        for number, part in enumerate([expander_code(), *map(pack, contents)]):
            numbers += [number] * max(1, -(-len(part) // FORM.capacity))
        return primer, flat([page for number, page in zip(numbers, pages, strict=True) if number not in lost])

    def test_lost_parts(self):
        pairs = collection()
        names = [name for name, _ in pairs]
        found = histories()
        rows = catalogue(pairs)
        self.check(*self.part_beds(pairs, 1), 400, (None, tuple((None, history) for history in found), (1,)))
        self.check(*self.part_beds(pairs, 3), 400,
                   (rows, ((names[0], found[0]), (names[1], None), (names[2], found[2])), (3,)))
        self.check(*self.part_beds(pairs, 1, 4), 400, (None, ((None, found[0]), (None, found[1]), (None, None)), (1, 4)))
        self.check(*self.part_beds(pairs, 2, 3, 4), 400, (rows, tuple((name, None) for name in names), (2, 3, 4)))

    def test_part_0_lost(self):
        pairs = collection()
        self.check(*self.part_beds(pairs, 0), 400, (None, ((None, None),) * 3, (0,)))
        self.check(*self.part_beds(pairs, 0, 2), 400, (None, ((None, None),) * 3, (0, 2)))

    def test_nothing_known(self):
        primer, pages = publish_collection(SETTINGS, collection())
        self.check(primer, [], 400, (None, (), ()))
        self.check(primer.replace("7", "8", 1), flat(pages), 400, (None, (), ()))

    def check_contents(self, contents, expected, settings=SINGLE):
        """Opens a library of any contents."""
        primer, pages = publish(settings, contents)
        self.check(primer, flat(pages), 400, expected)

    def test_no_content(self):
        self.check_contents([], (None, (), ()))
        primer, pages = library(SINGLE, [[12, 0, 0]])
        self.check(primer, flat(pages), 400, (None, (), ()))

    def test_the_first_content_is_no_volume(self):
        history = history_of([1, 2], [2])
        for octets in ([], [0], [4, 1], [1, 1], [1, 1, 37], encode_volume(table()) + [0], [2, 0, 0]):
            self.check_contents([octets], (None, (), ()))
            self.check_contents([octets, encode_history(history)], (None, ((None, history),), ()))

    def test_the_first_content_is_another_volume(self):
        history = history_of([1, 2], [2])
        for volume in (("text", "a"), ("folder", ()), ("folder", (("a", ("text", "x")),)),
                       ("folder", (("a", table(("a", "1", "1"))),))):
            self.check_contents([encode_volume(volume)], (volume, (), ()))
            self.check_contents([encode_volume(volume), encode_history(history)], (volume, ((None, history),), ()))

    def test_tables_with_other_numbers_of_rows(self):
        found = histories()
        octets = [encode_history(history) for history in found]
        for rows, names in (((), (None, None, None)), ((("x", "", ""),), ("x", None, None)),
                            ((("x", "5", "5"), ("a b", "", "")), ("x", "a b", None)),
                            ((("1", "", ""), ("", "", ""), ("", "", "")), ("1", "", "")),
                            ((("1", "", ""), ("2", "", ""), ("3", "", ""), ("4", "", "")), ("1", "2", "3"))):
            volume = table(*rows)
            self.check_contents([encode_volume(volume), *octets], (volume, tuple(zip(names, found)), ()))
        volume = ("table", ("only",), (("x",), ("y",), ("z",)))
        self.check_contents([encode_volume(volume), *octets], (volume, tuple(zip("xyz", found)), ()))

    def test_contents_that_are_no_histories(self):
        history = history_of([1, 2], [2])
        volume = table(("a", "", ""), ("b", "", ""))
        for octets in ([], [0], [1], [2, 0], [1, 0, 0], encode_history(history)[:-1], encode_history(history) + [0]):
            self.check_contents([encode_volume(volume), octets, encode_history(history)],
                                (volume, (("a", None), ("b", history)), ()))

    def test_the_limit(self):
        pairs = collection()
        primer, pages = publish_collection(SETTINGS, pairs)
        sizes = [len(encode_volume(catalogue(pairs)))] + [len(encode_history(history)) for _, history in pairs]
        for limit in sorted({size + more for size in sizes for more in (-1, 0)}):
            rows = catalogue(pairs) if sizes[0] <= limit else None
            expected = tuple((name if rows else None, history if size <= limit else None)
                             for (name, history), size in zip(pairs, sizes[1:]))
            self.check(primer, flat(pages), limit, (rows, expected, ()))

    def test_errors(self):
        primer, pages = publish_collection(SETTINGS, collection())
        good = flat(pages)
        for wrong in (*NO_BEDS, [[3]]):
            self.raised(InvalidBed, open_collection, primer, [*good, wrong], 99)
            self.raised(PrimerError, open_collection, primer[1:], [*good, wrong], 99)
        self.raised(PrimerError, open_collection, "", good, 99)
