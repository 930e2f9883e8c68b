"""Point 73, with points 40, 41, 49 and 53."""

import itertools
import random

from scanpages.archives import Settings, archive_pages, put_together
from scanpages.errors import InvalidArchive, TooManyPages
from scanpages.formats import Format
from scanpages.planning import plan
from tests.support import ProgramTest
from tests.test_archives import octets_of

ONE = Format(16, 4)
THREE = Format(18, 8)
LARGE = Format(40, 2)


def slow_plan(form, sizes, losses):
    """A plan, found by printing archives of all kinds."""
    parts = [octets_of(size) for size in sizes]
    best = None
    for group in range(1, 13):
        try:
            pages = len(archive_pages(Settings(form, 0, group, losses), parts))
        except (InvalidArchive, TooManyPages):
            continue
        if best is None or pages <= best[1]:
            best = (group, pages)
    return best


class PlanTest(ProgramTest):

    def check(self, form, sizes, losses, expected):
        """Makes a plan, and compares it also with what printing tells."""
        self.assertEqual(expected, self.pure(plan, form, sizes, losses))
        self.assertEqual(expected, slow_plan(form, sizes, losses))

    def test_losses(self):
        # Ten data pages in groups of g need losses * ceil(10 / g) check pages.
        for losses, expected in ((0, (12, 10)), (1, (12, 11)), (4, (12, 14)), (5, (11, 15)), (6, (10, 16)),
                                 (7, (9, 24)), (8, (8, 26)), (11, (5, 32)), (12, (4, 46)), (13, (3, 62)), (14, (2, 80)),
                                 (15, (1, 160)), (16, None), (17, None), (1000, None), (10 ** 5000, None)):
            self.check(ONE, [10], losses, expected)

    def test_two_group_sizes_with_the_same_number_of_pages(self):
        # Four data pages fit into one group of four and of more.
        self.check(ONE, [4], 1, (12, 5))
        self.check(ONE, [4], 12, (4, 16))
        self.check(ONE, [4], 13, (3, 30))
        # Groups of seven and of eight, of five and of six: two groups each.
        self.check(ONE, [13], 8, (8, 29))
        self.check(ONE, [10], 9, (7, 28))
        # Groups of nine up to twelve divide them into two groups, which are never fewer.
        self.check(ONE, [18], 3, (12, 24))

    def test_slices(self):
        self.check(THREE, [0], 1, (12, 2))
        self.check(THREE, [1], 1, (12, 2))
        self.check(THREE, [3], 1, (12, 2))
        self.check(THREE, [4], 1, (12, 3))
        self.check(THREE, [6, 0, 7], 2, (12, 8))
        for capacity_slices in (1, 2, 12, 13):
            for form in (ONE, THREE, Format(20, 4)):
                size = form.capacity * capacity_slices
                full = self.pure(plan, form, [size], 1)
                more = self.pure(plan, form, [size + 1], 1)
                self.assertEqual((full, more), (slow_plan(form, [size], 1), slow_plan(form, [size + 1], 1)))
                self.assertLess(full[1], more[1])

    def test_255_and_256_pages(self):
        self.check(ONE, [255], 0, (12, 255))
        self.check(ONE, [256], 0, None)
        self.check(ONE, [128, 127], 0, (12, 255))
        self.check(ONE, [128, 128], 0, None)
        self.check(ONE, [235], 1, (12, 255))
        self.check(ONE, [236], 1, None)
        # Only groups of eleven and twelve have few enough pages, or only the greatest ones.
        self.check(ONE, [233], 1, (12, 253))
        self.check(ONE, [15], 15, (1, 240))
        self.check(ONE, [16], 15, None)
        self.check(ONE, [17, 13], 14, (2, 240))
        self.check(ONE, [31], 14, (2, 255))
        self.check(ONE, [32], 14, None)

    def test_parts_of_too_many_slices(self):
        self.check(ONE, [4000], 0, None)
        self.check(THREE, [765], 0, (12, 255))
        self.check(THREE, [766], 0, None)
        self.check(THREE, [766, 1], 3, None)
        self.check(LARGE, [4000], 0, (12, 32))

    def test_sizes(self):
        self.check(LARGE, [0], 0, (12, 1))
        self.check(LARGE, [0, 4000, 0], 2, (12, 40))
        self.check(LARGE, [0] * 99, 0, (12, 99))
        self.check(LARGE, [1] * 99, 1, (12, 108))

    def test_errors(self):
        for sizes in ([], [0] * 100, [0] * 101, [4001], [-1], [0, 4001], [-1, 0], [5, 10 ** 5000], [-10 ** 5000, 5]):
            for losses in (0, 1, 15, 16, 100, -1):
                self.raised(InvalidArchive, plan, LARGE, sizes, losses)
        for losses in (-1, -2, -16, -10 ** 5000):
            for sizes in ([0], [4000], [0] * 99):
                self.raised(InvalidArchive, plan, LARGE, sizes, losses)
        # Without a plan there is an error all the same.
        self.raised(InvalidArchive, plan, ONE, [4000, 4001], 0)
        self.raised(InvalidArchive, plan, ONE, [4000], -1)

    def test_plans_by_chance(self):
        chance = random.Random(1)
        found = {None: 0, True: 0}
        for _ in range(120):
            form = chance.choice((ONE, THREE, Format(20, 4), Format(27, 6)))
            sizes = [chance.randrange(chance.choice((1, 20, 200, 400))) for _ in range(chance.randrange(1, 6))]
            losses = chance.choice((0, 1, 2, 3, 5, 8, 13, 15, 16))
            expected = slow_plan(form, sizes, losses)
            found[None if expected is None else True] += 1
            self.assertEqual(expected, plan(form, sizes, losses))
        self.assertGreater(min(found.values()), 10)


class SurvivalTest(ProgramTest):
    """What a plan promises, held against archives whose pages are lost."""

    def put(self, form, pairs, gone):
        """What is put together without some pages."""
        return put_together(form, 5, [pair for pair in pairs if pair[0][1] not in gone])

    def test_any_pages_are_lost(self):
        for form, sizes, losses in ((ONE, [3, 0, 2], 1), (ONE, [4, 1], 2), (THREE, [20], 2), (THREE, [9, 1, 0], 3),
                                    (ONE, [14], 2), (ONE, [2, 1], 13)):
            group, count = plan(form, sizes, losses)
            parts = [octets_of(size, size) for size in sizes]
            pairs = archive_pages(Settings(form, 5, group, losses), parts)
            self.assertEqual(count, len(pairs))
            gone_pages = list(itertools.combinations(range(count), losses))
            for gone in gone_pages[::max(1, len(gone_pages) // 400)]:
                found = self.put(form, pairs, gone)
                self.assertEqual(tuple(map(tuple, parts)), found.parts)
            fewer = archive_pages(Settings(form, 5, group, losses - 1), parts)
            # One page of data and all check pages of its group.
            data_pages = fewer[0][0][2]
            gone = (0, *range(data_pages, data_pages + losses - 1))
            lost = self.put(form, fewer, gone)
            self.assertTrue(lost.parts is None or 0 in lost.lost_parts)
