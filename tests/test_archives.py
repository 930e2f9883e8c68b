"""Points 40, 41, 49, 50, 51 and 52, step by step, on pairs of labels and bodies."""

import itertools

from scanpages.archives import Restored, Settings, archive_pages, put_together
from scanpages.coding import encode
from scanpages.errors import InvalidArchive, TooManyPages
from scanpages.formats import Format
from scanpages.labels import check_label
from scanpages.slices import slice_body
from tests.support import ProgramTest, plain

ONE = Format(16, 4)
THREE = Format(18, 8)
MANY = Format(40, 2)
NO_OCTETS = (-1, 256, 10 ** 5000, -10 ** 5000)


def octets_of(length, seed=0):
    """A list of octets."""
    return [(at * 37 + seed * 11 + 5) % 256 for at in range(length)]


def body(head, octets, form=THREE):
    """The body of a slice; head is the part, the parts, the slice and the slices."""
    return slice_body(form, head, octets)


class SettingsTest(ProgramTest):

    def test_attributes(self):
        form = Format(20, 4)
        settings = Settings(form, 7, 3, 2)
        self.assertEqual((20, 4, 7, 3, 2), (settings.form.side, settings.form.checks, settings.archive,
                                            settings.group, settings.checks))
        self.assertIsInstance(settings.form, Format)
        form.side = 30
        self.assertEqual((20, 13), (settings.form.side, settings.form.capacity))

    def test_archive_numbers(self):
        for archive in (0, 1, 254, 255):
            self.assertEqual(archive, Settings(THREE, archive, 1, 0).archive)
        for archive in (-1, 256, 10 ** 5000, -10 ** 5000):
            self.raised(InvalidArchive, Settings, THREE, archive, 1, 0)

    def test_groups_and_checks(self):
        for group, checks in itertools.product([*range(-2, 20), 10 ** 5000], [*range(-2, 20), 10 ** 5000]):
            if 1 <= group <= 12 and 0 <= checks <= 16 - group:
                settings = Settings(THREE, 7, group, checks)
                self.assertEqual((group, checks), (settings.group, settings.checks))
            else:
                self.raised(InvalidArchive, Settings, THREE, 7, group, checks)


class RestoredClassTest(ProgramTest):

    def test_attributes(self):
        parts = [[1, 2], None, [], None]
        missing = [3, 4]
        found = Restored(parts, 9, missing)
        parts[0].append(3)
        parts.append([])
        missing.append(5)
        self.assertEqual((((1, 2), None, (), None), 9, (3, 4), (1, 3)),
                         (found.parts, found.pages, found.missing, found.lost_parts))

    def test_tuples(self):
        found = Restored(((1,), None), 2, (0,))
        self.assertEqual((((1,), None), 2, (0,), (1,)), (found.parts, found.pages, found.missing, found.lost_parts))

    def test_nothing_lost_and_nothing_known(self):
        self.assertEqual((), Restored([[], [1]], 2, []).lost_parts)
        found = Restored(None, 3, [1])
        self.assertEqual((None, 3, (1,), ()), (found.parts, found.pages, found.missing, found.lost_parts))


class ArchivePagesTest(ProgramTest):

    def check_pages(self, settings, parts):
        """Makes the pages of an archive and compares them with the words of the document."""
        form, group, checks = settings.form, settings.group, settings.checks
        pages = self.pure(archive_pages, settings, parts)
        data = []
        for number, part in enumerate(parts):
            pieces = [part[at:at + form.capacity] for at in range(0, len(part), form.capacity)] or [[]]
            data += [slice_body(form, (number, len(parts), at, len(pieces)), piece) for at, piece in enumerate(pieces)]
        groups = [data[at:at + group] for at in range(0, len(data), group)]
        self.assertEqual(data, [found for _, found in pages[:len(data)]])
        self.assertEqual(len(data) + len(groups) * checks, len(pages))
        for number, (label, found) in enumerate(pages):
            self.assertEqual((settings.archive, number, len(data), group, checks), label)
            self.assertEqual(len(pages), check_label(label))
        for number, bodies in enumerate(groups):
            first = len(data) + number * checks
            together = bodies + [found for _, found in pages[first:first + checks]]
            for symbols in zip(*together):
                self.assertEqual(list(symbols), encode(list(symbols[:len(bodies)]), len(together)))
        for page in pages:
            self.assertEqual((tuple, tuple, list), (type(page), type(page[0]), type(page[1])))
        return pages

    def test_the_words_of_the_document(self):
        for form, group, checks in itertools.product((ONE, THREE, Format(20, 4)), (1, 3, 12), (0, 2, 4)):
            settings = Settings(form, 9, group, checks)
            for parts in ([[]], [[], []], [octets_of(1)], [octets_of(8), [], octets_of(5, 1), octets_of(3, 2)]):
                self.check_pages(settings, parts)

    def test_numbers_of_parts(self):
        settings = Settings(THREE, 0, 1, 0)
        self.assertEqual(1, len(self.check_pages(settings, [[5]])))
        self.assertEqual(99, len(self.check_pages(settings, [[5]] * 99)))
        for parts in ([], [[]] * 100, [[5]] * 100, [[]] * 101):
            self.raised(InvalidArchive, archive_pages, settings, parts)

    def test_lengths_of_parts(self):
        settings = Settings(MANY, 0, 12, 0)
        self.assertEqual(32, len(self.check_pages(settings, [octets_of(4000)])))
        for parts in ([octets_of(4001)], [[], octets_of(4001)], [octets_of(4000), octets_of(4001), []]):
            self.raised(InvalidArchive, archive_pages, settings, parts)

    def test_octets(self):
        settings = Settings(THREE, 0, 2, 1)
        self.check_pages(settings, [[0, 255]])
        for wrong in NO_OCTETS:
            for parts in ([[wrong]], [[0, 1, 2, 3, wrong]], [[0], [wrong]], [[wrong], [0]], [[], [1, wrong, 1]]):
                self.raised(InvalidArchive, archive_pages, settings, parts)

    def test_slices(self):
        settings = Settings(ONE, 0, 12, 0)
        self.assertEqual(255, len(self.check_pages(settings, [octets_of(255)])))
        for length in (256, 257, 4000):
            self.raised(TooManyPages, archive_pages, settings, [octets_of(length)])
            self.raised(TooManyPages, archive_pages, settings, [[], octets_of(length)])
        self.assertEqual(255, len(archive_pages(Settings(THREE, 0, 12, 0), [octets_of(765)])))
        self.raised(TooManyPages, archive_pages, Settings(THREE, 0, 12, 0), [octets_of(766)])

    def test_pages(self):
        settings = Settings(ONE, 0, 12, 1)
        self.assertEqual(255, len(archive_pages(settings, [octets_of(200), octets_of(35)])))
        self.raised(TooManyPages, archive_pages, settings, [octets_of(200), octets_of(36)])
        settings = Settings(ONE, 0, 1, 14)
        self.assertEqual(255, len(archive_pages(settings, [octets_of(16), []])))
        self.raised(TooManyPages, archive_pages, settings, [octets_of(16), [], []])
        settings = Settings(ONE, 0, 12, 0)
        self.assertEqual(255, len(archive_pages(settings, [octets_of(128), octets_of(127)])))
        self.raised(TooManyPages, archive_pages, settings, [octets_of(128), octets_of(128)])

    def test_which_error_comes_first(self):
        settings = Settings(ONE, 0, 12, 0)
        for parts in ([octets_of(300), [256]], [octets_of(300), octets_of(4001)], [octets_of(300), *[[]] * 99],
                      [octets_of(200), octets_of(200), [-1]]):
            self.raised(InvalidArchive, archive_pages, settings, parts)


class PutTogetherTest(ProgramTest):

    def check_result(self, pairs, parts, pages, missing, form=THREE, archive=9):
        """Puts pairs together and compares everything that comes of it."""
        found = self.pure(put_together, form, archive, pairs)
        self.assertEqual((parts, pages, missing), (found.parts, found.pages, found.missing))
        lost = () if parts is None else tuple(number for number, part in enumerate(parts) if part is None)
        self.assertEqual(lost, found.lost_parts)

    def single(self, *bodies):
        """Pairs of data pages of an archive without check pages."""
        return [((9, number, len(bodies), 12, 0), found) for number, found in enumerate(bodies)]

    def test_everything_is_there(self):
        for group, checks in ((1, 0), (2, 1), (3, 2), (12, 4)):
            parts = [octets_of(7), [], octets_of(9, 3), [0]]
            pages = archive_pages(Settings(THREE, 9, group, checks), parts)
            expected = tuple(map(tuple, parts))
            self.check_result(pages, expected, len(pages), ())
            self.check_result(pages[::-1], expected, len(pages), ())
            self.check_result(pages + pages, expected, len(pages), ())

    def test_nothing_is_there(self):
        self.check_result([], None, 0, ())
        self.check_result(archive_pages(Settings(THREE, 8, 1, 1), [[1]]), None, 0, ())

    def test_pairs_of_other_archives(self):
        parts = [octets_of(7), [1, 2]]
        pages = archive_pages(Settings(THREE, 9, 2, 1), parts)
        others = [pair for archive in (0, 8, 10, 255)
                  for pair in archive_pages(Settings(THREE, archive, 3, 2), [octets_of(9, archive)])]
        for pairs in (others + pages, pages + others):
            self.check_result(pairs, tuple(map(tuple, parts)), len(pages), ())

    def test_the_first_pair_determines_the_numbers(self):
        first = body((0, 1, 0, 1), [1])
        second = body((0, 1, 0, 1), [2])
        for label, other, pages in (((9, 0, 1, 2, 1), (9, 0, 2, 2, 1), 2), ((9, 0, 2, 2, 1), (9, 0, 1, 2, 1), 3),
                                    ((9, 0, 1, 2, 1), (9, 0, 1, 3, 1), 2), ((9, 0, 1, 2, 1), (9, 0, 1, 2, 2), 2),
                                    ((9, 0, 1, 2, 1), (9, 0, 1, 2, 0), 2)):
            missing = tuple(range(1, pages))
            for pairs in ([(label, first), (other, second)], [((8, *other[1:]), second), (label, first)]):
                self.check_result(pairs, ((1,),), pages, missing)
        # What differs is left out even where its page is not there otherwise.
        label = (9, 1, 2, 1, 0)
        pairs = [(label, body((1, 2, 0, 1), [7])), ((9, 0, 3, 1, 0), body((0, 2, 0, 1), [8])),
                 ((9, 0, 2, 2, 0), body((0, 2, 0, 1), [8])), ((9, 0, 2, 1, 1), body((0, 2, 0, 1), [8]))]
        self.check_result(pairs, (None, (7,)), 2, (0,))
        self.check_result([*pairs, ((9, 0, 2, 1, 0), body((0, 2, 0, 1), [8]))], ((8,), (7,)), 2, ())

    def test_of_repeated_pages_the_first_one_counts(self):
        label = (9, 0, 1, 1, 0)
        bodies = [body((0, 1, 0, 1), [number]) for number in range(3)] + [[15] * THREE.body_size]
        for order in itertools.permutations(range(4)):
            pairs = [(label, bodies[number]) for number in order]
            self.check_result(pairs, None if order[0] == 3 else ((order[0],),), 1, ())

    def test_groups_with_just_enough_pages_and_one_fewer(self):
        parts = [octets_of(14, 1), octets_of(2, 2)]
        pages = archive_pages(Settings(THREE, 9, 3, 2), parts)
        # Data pages 0 to 5 and check pages 6 to 9; the groups are 0 1 2 6 7 and 3 4 5 8 9.
        self.assertEqual(10, len(pages))
        both = tuple(map(tuple, parts))
        for missing, expected in (
            ((0, 1), both), ((0, 7), both), ((6, 7), both), ((3, 5), both), ((0, 2, 4, 5), both), ((1, 2, 8, 9), both),
            ((0, 1, 2), (None, both[1])), ((0, 1, 6), (None, both[1])), ((2, 6, 7), (None, both[1])),
            ((3, 5, 8), (None, None)), ((5, 8, 9), (both[0], None)), ((4, 8, 9), (None, both[1])),
            ((0, 1, 2, 3, 4), (None, both[1])), ((0, 1, 2, 5, 8, 9), (None, None)),
        ):
            there = [pair for number, pair in enumerate(pages) if number not in missing]
            self.check_result(there, expected, 10, missing)
            self.check_result(there[::-1], expected, 10, missing)

    def test_pages_are_computed_from_the_first_ones(self):
        parts = [octets_of(9, 4)]
        pages = archive_pages(Settings(THREE, 9, 3, 2), parts)
        wrong = [0] * THREE.body_size
        # Page 4 is not needed if page 3 is there.
        pairs = [pages[3], (pages[4][0], wrong), pages[0], pages[2]]
        self.check_result(pairs, (tuple(parts[0]),), 5, (1,))
        # With a wrong page 3 the other data pages stay as they are.
        pairs = [(pages[3][0], wrong), pages[4], pages[0], pages[1], pages[2]]
        self.check_result(pairs, (tuple(parts[0]),), 5, ())
        # A wrong page that is needed makes something else, and here this is no slice.
        pairs = [(pages[3][0], [15] * THREE.body_size), pages[4], pages[0], pages[2]]
        self.check_result(pairs, (None,), 5, (1,))

    def test_computed_pages_may_be_no_slices(self):
        label = (9, 2, 1, 1, 2)
        self.check_result([(label, [0] * THREE.body_size)], None, 3, (0, 1))
        self.check_result([(label, body((0, 1, 0, 1), [5]))], ((5,),), 3, (0, 1))

    def test_only_data_pages_are_slices(self):
        # The group has too few pages; so its check page is not used, though its body is that of a slice.
        self.check_result([((9, 2, 2, 2, 1), body((0, 1, 0, 1), [5]))], None, 3, (0, 1))

    def test_bodies_that_are_no_slices(self):
        wrong = [0] * THREE.body_size
        self.check_result(self.single(wrong), None, 1, ())
        self.check_result(self.single(wrong, wrong), None, 2, ())
        self.check_result(self.single(wrong, body((0, 1, 0, 1), [1])), ((1,),), 2, ())
        self.check_result(self.single(body((0, 1, 0, 1), [1]), wrong), ((1,),), 2, ())

    def test_the_first_slice_determines_the_number_of_parts(self):
        two = body((0, 2, 0, 1), [1])
        three = body((1, 3, 0, 1), [2])
        for order in itertools.permutations(range(2)):
            pairs = self.single(two, three)
            self.check_result([pairs[at] for at in order], ((1,), None), 2, ())
            pairs = self.single(three, two)
            self.check_result([pairs[at] for at in order], (None, (2,), None), 2, ())
        wrong = [0] * THREE.body_size
        self.check_result(self.single(wrong, three, two, body((0, 3, 0, 1), [3])), ((3,), (2,), None), 4, ())

    def test_a_computed_page_may_be_the_first_slice(self):
        data = [body((0, 2, 0, 1), [1]), body((0, 3, 0, 1), [2])]
        check = [encode(list(symbols), 3)[2] for symbols in zip(*data)]
        labels = [(9, number, 2, 2, 1) for number in range(3)]
        self.check_result([(labels[2], check), (labels[1], data[1])], ((1,), None), 3, (0,))
        self.check_result([(labels[1], data[1])], ((2,), None, None), 3, (0, 2))

    def test_other_numbers_of_slices_in_one_part(self):
        first, second = body((0, 1, 0, 2), [1, 2, 3]), body((0, 1, 1, 2), [4])
        alone = body((0, 1, 0, 1), [9])
        of_three = body((0, 1, 1, 3), [7, 7, 7])
        for bodies, expected in (
            ((first, alone, second), (1, 2, 3, 4)), ((first, second, alone), (1, 2, 3, 4)),
            ((second, alone, first), (1, 2, 3, 4)), ((second, alone), None), ((first, alone), None),
            ((alone, first, second), (9,)), ((alone, of_three), (9,)), ((of_three, first, second, alone), None),
            ((first, of_three, second), (1, 2, 3, 4)), ((first, of_three), None),
        ):
            self.check_result(self.single(*bodies), (expected,), len(bodies), ())

    def test_the_same_slice_on_two_pages(self):
        one, other = body((0, 1, 0, 2), [1, 2, 3]), body((0, 1, 0, 2), [5, 6, 7])
        last, empty = body((0, 1, 1, 2), [4]), body((0, 1, 1, 2), [])
        for bodies, expected in (
            ((one, other, last), (1, 2, 3, 4)), ((other, one, last), (5, 6, 7, 4)), ((last, empty, one), (1, 2, 3, 4)),
            ((empty, last, one), (1, 2, 3)), ((one, other), None), ((one, last, other, empty), (1, 2, 3, 4)),
        ):
            self.check_result(self.single(*bodies), (expected,), len(bodies), ())
            pairs = self.single(*bodies)
            self.check_result(pairs[::-1], (expected,), len(bodies), ())

    def test_slices_of_several_parts_in_any_order(self):
        bodies = [body((1, 2, 1, 2), [8]), body((0, 2, 0, 1), []), body((1, 2, 0, 2), [1, 2, 3])]
        for order in itertools.permutations(bodies):
            self.check_result(self.single(*order), ((), (1, 2, 3, 8)), 3, ())

    def test_the_result_is_new(self):
        pairs = self.single(body((0, 1, 0, 1), [1]))
        found = put_together(THREE, 9, pairs)
        pairs[0][1][10] = 7
        self.assertEqual(((1,),), found.parts)
        self.assertEqual(plain(Restored([[1]], 1, [])), plain(found))
