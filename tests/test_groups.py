"""Point 51 and step 3 of point 52."""

import itertools
import random

from scanpages.coding import encode, restored
from scanpages.errors import InvalidSymbol
from scanpages.groups import check_bodies, complete
from tests.support import ProgramTest

GROUPS = [(count, checks) for count in range(1, 17) for checks in range(17 - count)]


def random_bodies(seed, count, size):
    """Bodies, chosen by chance."""
    chance = random.Random(seed)
    return [[chance.randrange(16) for _ in range(size)] for _ in range(count)]


class CheckBodiesTest(ProgramTest):

    def test_each_index_has_a_codeword(self):
        for count, checks in GROUPS:
            bodies = random_bodies(count, count, 5)
            found = self.pure(check_bodies, bodies, checks)
            self.assertEqual(checks, len(found))
            for at in range(5):
                expected = encode([body[at] for body in bodies], count + checks)
                self.assertEqual(expected, [body[at] for body in bodies + found])

    def test_groups_of_one_page(self):
        for checks in range(16):
            self.assertEqual([[1, 2, 15]] * checks, self.pure(check_bodies, [[1, 2, 15]], checks))

    def test_no_check_page(self):
        for count in range(1, 17):
            self.assertEqual([], self.pure(check_bodies, random_bodies(1, count, 4), 0))

    def test_bodies_without_a_symbol(self):
        for count, checks in GROUPS:
            self.assertEqual([[]] * checks, self.pure(check_bodies, [[] for _ in range(count)], checks))
        found = check_bodies([[], []], 3)
        self.assertEqual(3, len({id(body) for body in found}))

    def test_groups_that_are_refused(self):
        for count, checks in ((0, 0), (0, 1), (0, 16), (1, -1), (16, -1), (17, -1), (1, 16), (16, 1), (17, 0), (18, 0),
                              (8, 9), (5, 10 ** 5000), (5, -10 ** 5000)):
            for size in (0, 3):
                self.raised(InvalidSymbol, check_bodies, random_bodies(2, count, size), checks)

    def test_items_that_are_no_symbols(self):
        for count, checks in ((1, 0), (1, 2), (4, 0), (4, 2), (16, 0)):
            for page, at, wrong in itertools.product({0, count - 1}, (0, 2), (-1, 16, 10 ** 5000)):
                bodies = random_bodies(3, count, 3)
                bodies[page][at] = wrong
                self.raised(InvalidSymbol, check_bodies, bodies, checks)


class CompleteTest(ProgramTest):

    def test_as_many_missing_as_there_are_check_pages(self):
        chance = random.Random(4)
        for count, checks in GROUPS:
            bodies = random_bodies(count, count, 4)
            group = bodies + check_bodies(bodies, checks)
            for missing in {0, checks // 2, checks}:
                gone = chance.sample(range(count + checks), missing)
                there = [None if at in gone else body for at, body in enumerate(group)]
                self.assertEqual(bodies, self.pure(complete, there, count))

    def test_all_ways_to_miss_pages(self):
        bodies = random_bodies(5, 3, 4)
        group = bodies + check_bodies(bodies, 2)
        for there in itertools.product((True, False), repeat=5):
            known = [body if is_there else None for body, is_there in zip(group, there)]
            expected = bodies if sum(there) >= 3 else known[:3]
            self.assertEqual(expected, self.pure(complete, known, 3))

    def test_one_more_missing(self):
        chance = random.Random(6)
        for count, checks in GROUPS:
            bodies = random_bodies(count, count, 4)
            group = bodies + check_bodies(bodies, checks)
            gone = chance.sample(range(count + checks), checks + 1)
            there = [None if at in gone else body for at, body in enumerate(group)]
            self.assertEqual(there[:count], self.pure(complete, there, count))

    def test_only_the_first_pages_count(self):
        chance = random.Random(7)
        for _ in range(60):
            size = chance.randrange(1, 17)
            count = chance.randrange(1, size + 1)
            # These pages are no group that was made; so each choice of the pages gives something else.
            pages = [chance.choice((body, None)) for body in random_bodies(chance.random(), size, 3)]
            there = [at for at in range(size) if pages[at] is not None]
            found = self.pure(complete, pages, count)
            if len(there) < count:
                self.assertEqual(pages[:count], found)
                continue
            for at in range(3):
                received = [None if body is None else body[at] for body in pages]
                self.assertEqual(restored(received, count)[:count], [body[at] for body in found])

    def test_bodies_without_a_symbol(self):
        self.assertEqual([[], []], self.pure(complete, [None, [], []], 2))
        self.assertEqual([None, []], self.pure(complete, [None, [], None], 2))

    def test_the_bodies_are_new_lists(self):
        pages = [[1, 2], [3, 4], None, [5, 6]]
        for count in (1, 2, 3):
            found = complete(pages, count)
            for body in found:
                body.append(9)
            self.assertEqual([[1, 2], [3, 4], None, [5, 6]], pages)
        found = complete([[1, 2], None, None], 2)
        found[0].append(9)
        self.assertEqual([[1, 2, 9], None], found)
        self.assertEqual([[1, 2], None], complete([[1, 2], None, None], 2))

    def test_wrong_numbers_of_data_pages(self):
        for size, count in ((0, 0), (0, 1), (1, 0), (1, -1), (1, 2), (5, 6), (5, 0), (16, 17), (17, 1), (17, 17),
                            (18, 3), (5, 10 ** 5000), (5, -10 ** 5000)):
            for body in ([1, 2], None):
                self.raised(InvalidSymbol, complete, [body] * size, count)
