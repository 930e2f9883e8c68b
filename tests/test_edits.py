"""Points 13, 14, 15 and 16."""

import itertools
import random

from scanpages.edits import cost, diff, inverted, normalized, patch, squashed
from scanpages.errors import InvalidScript
from tests.support import ProgramTest, lists_over


def common(first, second):
    """The greatest length of a list that can be made from either list by leaving items out, counted slowly."""
    lengths = [[0] * (len(second) + 1) for _ in range(len(first) + 1)]
    for row, one in enumerate(first, 1):
        for column, other in enumerate(second, 1):
            if one == other:
                lengths[row][column] = lengths[row - 1][column - 1] + 1
            else:
                lengths[row][column] = max(lengths[row - 1][column], lengths[row][column - 1])
    return lengths[-1][-1]


def is_normal(script):
    """Whether a script has the form of point 13 and is in normal form."""
    kinds = [kind for kind, _ in script]
    for pair in zip(kinds, kinds[1:]):
        if pair[0] == pair[1] or pair == ("add", "drop"):
            return False
    return all(isinstance(step, tuple) and (isinstance(step[1], tuple) and step[1] != () if step[0] == "add"
                                            else step[1] >= 1) for step in script)


def meaning(script):
    """Where each old item goes, kept or dropped, and what is added in each gap between kept items."""
    kept = []
    added = [[]]
    for kind, what in script:
        if kind == "add":
            added[-1].extend(what)
        for _ in range(0 if kind == "add" else what):
            kept.append(kind == "keep")
            if kind == "keep":
                added.append([])
    return kept, added


def random_script(chance, length):
    """A script that fits a list of this length, in no special form."""
    script = []
    left = length
    while left > 0 or chance.randrange(3) == 0:
        kind = chance.choice(("keep", "drop", "add"))
        if kind == "add":
            script.append(("add", tuple(chance.randrange(100, 200) for _ in range(chance.randrange(1, 4)))))
        elif left > 0:
            count = chance.randrange(1, left + 1)
            script.append((kind, count))
            left -= count
    return script


class PatchTest(ProgramTest):

    def test_example(self):
        script = [("keep", 1), ("drop", 2), ("add", (1, 2)), ("keep", 1)]
        self.assertEqual([5, 1, 2, 8], self.pure(patch, [5, 6, 7, 8], script))

    def test_fits(self):
        self.assertEqual([], patch([], []))
        self.assertEqual([7, -3], patch([], [("add", (7,)), ("add", (-3,))]))
        self.assertEqual([1, 2], self.pure(patch, [1, 2], [("keep", 2)]))
        self.assertEqual([], patch([1, 2], [("drop", 1), ("drop", 1)]))
        self.assertEqual([9, 1, 8, 2, 7], patch([1, 2], [("add", (9,)), ("keep", 1), ("add", (8,)), ("keep", 1),
                                                         ("add", (7,))]))
        self.assertEqual([9, 2], patch([1, 2], [("add", (9,)), ("drop", 1), ("keep", 1)]))

    def test_does_not_fit(self):
        for old, script in (
            ([1], []),
            ([], [("keep", 1)]),
            ([], [("drop", 1)]),
            ([1, 2], [("keep", 1)]),
            ([1, 2], [("keep", 1), ("add", (2,))]),
            ([1, 2], [("drop", 3)]),
            ([1, 2], [("keep", 3)]),
            ([1, 2], [("keep", 1), ("drop", 2)]),
            ([1, 2], [("keep", 10 ** 12)]),
            ([1, 2], [("drop", 10 ** 5000)]),
        ):
            with self.subTest(old=old, script=script):
                self.raised(InvalidScript, patch, old, script)
                self.raised(InvalidScript, inverted, old, script)

    def test_slowly(self):
        chance = random.Random(1)
        for _ in range(300):
            old = [chance.randrange(5) for _ in range(chance.randrange(8))]
            script = random_script(chance, len(old))
            kept, added = meaning(script)
            items = [item for item, keep in zip(old, kept) if keep]
            expected = list(added[0])
            for item, behind in zip(items, added[1:]):
                expected += [item, *behind]
            self.assertEqual(expected, patch(old, script))


class NormalFormTest(ProgramTest):

    def test_examples(self):
        script = [("add", (1,)), ("drop", 1), ("add", (2,)), ("keep", 1), ("keep", 1)]
        self.assertEqual([("drop", 1), ("add", (1, 2)), ("keep", 2)], self.pure(normalized, script))

    def test_small_scripts(self):
        self.assertEqual([], self.pure(normalized, []))
        self.assertEqual([("drop", 3)], normalized([("drop", 1), ("drop", 2)]))
        self.assertEqual([("add", (1, 2, 3))], normalized([("add", (1,)), ("add", (2, 3))]))
        self.assertEqual([("drop", 2), ("add", (1,))], normalized([("drop", 1), ("add", (1,)), ("drop", 1)]))
        self.assertEqual([("keep", 1), ("drop", 1), ("keep", 1)],
                         normalized([("keep", 1), ("drop", 1), ("keep", 1)]))
        self.assertEqual([("keep", 1), ("add", (1,)), ("keep", 1)],
                         normalized([("keep", 1), ("add", (1,)), ("keep", 1)]))
        self.assertEqual([("keep", 2 * 10 ** 12), ("drop", 10 ** 12)],
                         normalized([("keep", 10 ** 12), ("keep", 10 ** 12), ("drop", 10 ** 12)]))

    def test_all_small_scripts(self):
        steps = [("keep", 1), ("keep", 2), ("drop", 1), ("add", (8,)), ("add", (9, 7))]
        for script in lists_over(steps, 5):
            normal = normalized(script)
            self.assertTrue(is_normal(normal), normal)
            self.assertEqual(meaning(script), meaning(normal))
            self.assertEqual(normal, normalized(normal))
            self.assertEqual(cost(script), cost(normal))
            if is_normal(script):
                self.assertEqual(script, normal)

    def test_cost(self):
        self.assertEqual(0, cost([]))
        self.assertEqual(0, cost([("keep", 7)]))
        self.assertEqual(7, self.pure(cost, [("drop", 3), ("add", (1, 2)), ("keep", 9), ("add", (4,)), ("drop", 1)]))


class DiffTest(ProgramTest):

    def check(self, old, new):
        script = diff(old, new)
        self.assertTrue(is_normal(script), script)
        self.assertEqual(new, patch(old, script))
        self.assertEqual(len(old) + len(new) - 2 * common(old, new), cost(script), (old, new))

    def test_examples(self):
        self.assertEqual([("keep", 1), ("drop", 1), ("keep", 1), ("add", (4,))],
                         self.pure(diff, [1, 2, 3], [1, 3, 4]))
        self.assertEqual([], self.pure(diff, [], []))
        self.assertEqual([("keep", 2)], self.pure(diff, [1, 2], [1, 2]))
        self.assertEqual([("drop", 2)], diff([1, 2], []))
        self.assertEqual([("add", (1, 2))], diff([], [1, 2]))
        self.assertEqual([("drop", 2), ("add", (3, 4, 5))], diff([1, 2], [3, 4, 5]))

    def test_all_small_lists(self):
        lists = list(lists_over([0, 1, 2], 4))
        for old, new in itertools.product(lists, repeat=2):
            self.check(old, new)

    def test_all_lists_of_two_items(self):
        lists = list(lists_over([0, 1], 6))
        for old, new in itertools.product(lists, repeat=2):
            self.check(old, new)

    def test_other_integers(self):
        self.check([-5, 10 ** 30, 0, 7], [10 ** 30, -5, 0, 0, 7])

    def test_by_chance(self):
        chance = random.Random(2)
        for kinds in (2, 3, 10):
            for _ in range(60):
                old = [chance.randrange(kinds) for _ in range(chance.randrange(40))]
                new = [chance.randrange(kinds) for _ in range(chance.randrange(40))]
                self.check(old, new)

    def test_lists_of_several_blocks(self):
        chance = random.Random(3)
        for old_length, new_length in ((1024, 60), (1025, 60), (60, 1100), (2100, 80), (1023, 1)):
            old = [chance.randrange(40) for _ in range(old_length)]
            new = [chance.randrange(40) for _ in range(new_length)]
            self.check(old, new)
        self.check([1] * 1024 + [2] + [1] * 1030, [2] + [1] * 40)

    def test_long_lists(self):
        chance = random.Random(4)
        old = [chance.randrange(256) for _ in range(4000)]
        new = old[:100] + [999] + old[300:2000] + old[2001:] + [7, 8]
        self.assertEqual(204, cost(diff(old, new)))
        self.assertEqual(new, patch(old, diff(old, new)))
        backward = old[::-1]
        self.assertEqual(backward, patch(old, diff(old, backward)))


class InverseTest(ProgramTest):

    def test_example(self):
        old = [5, 6, 7, 8]
        script = [("keep", 1), ("drop", 2), ("add", (1, 2)), ("keep", 1)]
        self.assertEqual([("keep", 1), ("drop", 2), ("add", (6, 7)), ("keep", 1)], self.pure(inverted, old, script))

    def test_no_normal_form(self):
        script = [("add", (1,)), ("drop", 1), ("add", (2,)), ("drop", 1)]
        self.assertEqual([("drop", 2), ("add", (5, 6))], inverted([5, 6], script))
        self.assertEqual([("keep", 2)], inverted([5, 6], [("keep", 1), ("keep", 1)]))
        self.assertEqual([], inverted([], []))

    def test_by_chance(self):
        chance = random.Random(5)
        for _ in range(500):
            old = list(range(chance.randrange(9)))
            script = random_script(chance, len(old))
            new = patch(old, script)
            back = self.pure(inverted, old, script)
            self.assertTrue(is_normal(back))
            self.assertEqual(old, patch(new, back))
            self.assertEqual(normalized(script), inverted(new, back))
            self.assertEqual(sum(meaning(script)[0]), sum(meaning(back)[0]))

    def test_what_stays_equal_is_still_replaced(self):
        self.assertEqual([("drop", 1), ("add", (5,))], inverted([5], [("drop", 1), ("add", (5,))]))


class SquashTest(ProgramTest):

    def test_small_scripts(self):
        self.assertEqual([], self.pure(squashed, [], []))
        self.assertEqual([("drop", 2)], squashed([("drop", 2)], []))
        self.assertEqual([("add", (1,))], squashed([], [("add", (1,))]))
        self.assertEqual([], squashed([("add", (1, 2))], [("drop", 2)]))
        self.assertEqual([("keep", 3)], squashed([("keep", 3)], [("keep", 3)]))
        self.assertEqual([("drop", 3), ("add", (1, 9, 3))],
                         self.pure(squashed, [("drop", 3), ("add", (1, 2, 3))],
                                   [("keep", 1), ("drop", 1), ("add", (9,)), ("keep", 1)]))

    def test_long_steps(self):
        many = 10 ** 12
        self.assertEqual([("keep", many - 1), ("drop", 3), ("keep", many)],
                         squashed([("keep", many), ("drop", 1), ("keep", many + 1)],
                                  [("keep", many - 1), ("drop", 2), ("keep", many)]))

    def test_dropped_and_added_again_is_not_kept(self):
        self.assertEqual([("drop", 1), ("add", (5,))], squashed([("drop", 1)], [("add", (5,))]))
        self.assertEqual([("drop", 1), ("add", (5,))], squashed([("keep", 1)], [("drop", 1), ("add", (5,))]))

    def test_does_not_fit(self):
        for first, second in (
            ([], [("keep", 1)]),
            ([("drop", 1)], [("keep", 1)]),
            ([("keep", 2)], [("keep", 1)]),
            ([("keep", 2)], [("keep", 1), ("add", (1,))]),
            ([("add", (1, 2))], [("drop", 3)]),
            ([("keep", 1), ("drop", 1), ("add", (1,))], [("keep", 3)]),
            ([("keep", 1)], []),
        ):
            with self.subTest(first=first, second=second):
                self.raised(InvalidScript, squashed, first, second)

    def test_by_chance(self):
        chance = random.Random(6)
        for _ in range(1000):
            old = list(range(chance.randrange(9)))
            first = normalized(random_script(chance, len(old)))
            middle = patch(old, first)
            second = normalized(random_script(chance, len(middle)))
            both = self.pure(squashed, first, second)
            self.assertTrue(is_normal(both), both)
            self.assertEqual(patch(middle, second), patch(old, both))
            kept_by_first = iter([at for at, keep in enumerate(meaning(first)[0]) if keep])
            sources = [next(kept_by_first) if item < 100 else None for item in middle]
            kept = [at for at, keep in zip(sources, meaning(second)[0]) if keep and at is not None]
            self.assertEqual(kept, [at for at, keep in enumerate(meaning(both)[0]) if keep])
