"""Point 78, with points 16, 17 and 68."""

import random

from scanpages.branches import merge_histories
from scanpages.edits import cost, diff, normalized, patch, squashed
from scanpages.errors import NoSuchVersion
from scanpages.merging import merged
from scanpages.versions import History, decode_history, encode_history
from tests.support import ProgramTest, plain


def history_of(*versions):
    """A history with some versions."""
    history = History(list(versions[0]))
    for octets in versions[1:]:
        history.record(list(octets))
    return history


def versions_of(history):
    """The versions of a history."""
    return [history.version(number) for number in range(len(history))]


def slow_merge(first, second):
    """The versions of the merged history and the conflicts, in the words of the document."""
    common = 0
    one, other = versions_of(first), versions_of(second)
    while one[:common + 2] == other[:common + 2] and common + 1 < min(len(one), len(other)):
        common += 1
    squashes = []
    for history in (first, second):
        scripts = [list(script) for script in history.scripts[common:]]
        if not scripts:
            squashes.append([("keep", len(one[common]))] if one[common] else [])
            continue
        while len(scripts) > 1:
            scripts[:2] = [squashed(scripts[0], scripts[1])]
        squashes.append(scripts[0])
    script, conflicts = merged(one[common], *squashes)
    return [*one, patch(one[common], script)], conflicts


class BranchesTest(ProgramTest):

    def check(self, first, second):
        """Merges two histories, and compares the result with the words of the document."""
        result = self.pure(merge_histories, first, second)
        self.assertEqual((tuple, History, list), (type(result), type(result[0]), type(result[1])))
        history, conflicts = result
        self.assertEqual(slow_merge(first, second), (versions_of(history), conflicts))
        self.assertEqual(len(first) + 1, len(history))
        self.assertEqual(first.first, history.first)
        self.assertEqual(first.scripts, history.scripts[:-1])
        # The new version is stored like every other one.
        last = list(history.scripts[-1])
        self.assertEqual(normalized(last), last)
        before, after = history.version(len(first) - 1), history.version(len(first))
        self.assertEqual(cost(diff(before, after)), cost(last))
        self.assertEqual(plain(history), plain(decode_history(encode_history(history))))
        return history.version(len(first)), conflicts

    def test_equal_histories(self):
        for versions in ([[]], [[1, 2, 3]], [[1, 2, 3], [1, 3], [4, 1, 3]], [[1], [], [2]]):
            history = history_of(*versions)
            self.assertEqual((versions[-1], []), self.check(history, history_of(*versions)))
            self.assertEqual((versions[-1], []), self.check(history, history))

    def test_one_of_them_without_more_versions(self):
        base = [[1, 2, 3], [1, 2, 3, 4]]
        longer = [*base, [1, 3, 4], [1, 3, 4, 5]]
        self.assertEqual(([1, 3, 4, 5], []), self.check(history_of(*base), history_of(*longer)))
        self.assertEqual(([1, 3, 4, 5], []), self.check(history_of(*longer), history_of(*base)))
        self.assertEqual(([9], []), self.check(history_of([]), history_of([], [9])))
        self.assertEqual(([9], []), self.check(history_of([], [9]), history_of([])))

    def test_both_with_more_versions(self):
        base = [1, 2, 3, 4, 5]
        first = history_of(base, [1, 2, 3, 4, 5, 6], [1, 2, 3, 9, 4, 5, 6])
        second = history_of(base, [2, 3, 4, 5], [0, 2, 3, 4, 5], [0, 2, 3, 5])
        self.assertEqual(([0, 2, 3, 9, 5, 6], []), self.check(first, second))
        self.assertEqual(([0, 2, 3, 9, 5, 6], []), self.check(second, first))

    def test_drops_and_adds_in_the_same_places(self):
        base = [1, 2, 3, 4]
        self.assertEqual(([1, 4], []), self.check(history_of(base, [1, 3, 4], [1, 4]), history_of(base, [1, 2, 4])))
        self.assertEqual(([1, 2, 9, 3, 4], []), self.check(history_of(base, [1, 2, 9, 3, 4]),
                                                           history_of(base, [1, 2, 9, 3, 4, 5], [1, 2, 9, 3, 4])))
        self.assertEqual(([1, 9, 4], []), self.check(history_of(base, [1, 9, 4]), history_of(base, [1, 9, 4, 8], [1, 9, 4])))

    def test_what_was_added_and_taken_away_again(self):
        base = [1, 2]
        # The octet 5 is added and dropped again; so the squash adds nothing.
        first = history_of(base, [1, 5, 2], [1, 2])
        self.assertEqual(([1, 7, 2], []), self.check(first, history_of(base, [1, 7, 2])))
        # The octet 2 is dropped and added again; so the squash drops it.
        first = history_of(base, [1], [1, 2])
        self.assertEqual(([1, 2, 3], [(2, (2,), (3,))]), self.check(first, history_of(base, [1, 2, 3])))

    def test_conflicts(self):
        base = [1, 2, 3]
        first = history_of(base, [7, 1, 2, 3], [7, 1, 2, 3, 9])
        second = history_of(base, [8, 1, 2, 3, 6, 6])
        self.assertEqual(([7, 8, 1, 2, 3, 9, 6, 6], [(0, (7,), (8,)), (3, (9,), (6, 6))]), self.check(first, second))
        self.assertEqual(([8, 7, 1, 2, 3, 6, 6, 9], [(0, (8,), (7,)), (3, (6, 6), (9,))]), self.check(second, first))

    def test_versions_that_become_equal_again(self):
        # Version 1 differs; so version 0 is the last common one, though the versions 2 and 3 are equal.
        first = history_of([1, 2], [1, 2, 3], [5], [5, 6])
        second = history_of([1, 2], [1, 2, 4], [5], [5, 6])
        self.assertEqual(([5, 6], []), self.check(first, second))
        first = history_of([1, 2], [1, 2, 3], [1, 2], [1, 2, 5])
        second = history_of([1, 2], [1, 2], [1, 2], [1, 2, 6])
        self.assertEqual(([1, 2, 5, 6], [(2, (5,), (6,))]), self.check(first, second))

    def test_the_last_common_version_counts(self):
        # After the octet 9 was added in both, it is common, and no conflict.
        first = history_of([1], [1, 9], [1, 9, 5])
        second = history_of([1], [1, 9], [8, 1, 9])
        self.assertEqual(([8, 1, 9, 5], []), self.check(first, second))

    def test_equal_versions_with_other_scripts(self):
        # The second history was written with a script of another cost.
        first = history_of([1, 2], [1, 2, 3], [1, 2, 3, 4])
        second = decode_history([3, 2, 1, 2, 2, 1, 2, 2, 3, 1, 2, 3, 2, 0, 3, 2, 1, 5])
        self.assertEqual([1, 2, 3], second.version(1))
        self.assertEqual(([1, 2, 3, 4, 5], [(3, (4,), (5,))]), self.check(first, second))

    def test_empty_versions(self):
        self.assertEqual(([], []), self.check(history_of([]), history_of([])))
        self.assertEqual(([], []), self.check(history_of([1], []), history_of([1], [])))
        self.assertEqual(([2, 3], [(0, (2,), (3,))]), self.check(history_of([], [2]), history_of([], [3])))
        self.assertEqual(([3], []), self.check(history_of([1], []), history_of([1], [1, 3])))

    def test_the_histories_do_not_change(self):
        first = history_of([1, 2], [1])
        second = history_of([1, 2], [1, 2, 3])
        before = plain((first, second))
        found = merge_histories(first, second)[0]
        found.record([9])
        found.shorten(1)
        self.assertEqual(before, plain((first, second)))

    def test_histories_that_are_no_branches(self):
        for one, other in (([1], [2]), ([], [1]), ([1], [1, 1]), ([1, 2], [2, 1])):
            self.raised(NoSuchVersion, merge_histories, history_of(one), history_of(other))
            self.raised(NoSuchVersion, merge_histories, history_of(one, [5], [6]), history_of(other, [5], [6]))
            self.raised(NoSuchVersion, merge_histories, history_of(one, other), history_of(other))
        shortened = history_of([1], [2])
        shortened.shorten(1)
        self.raised(NoSuchVersion, merge_histories, history_of([1], [2]), shortened)

    def test_histories_by_chance(self):
        chance = random.Random(1)
        found = 0
        for _ in range(150):
            base = [[chance.randrange(4) for _ in range(chance.randrange(8))] for _ in range(chance.randrange(1, 4))]
            branches = [[[chance.randrange(4) for _ in range(chance.randrange(8))] for _ in range(chance.randrange(4))]
                        for _ in range(2)]
            found += len(self.check(*[history_of(*base, *branch) for branch in branches])[1])
        self.assertGreater(found, 20)
