"""Points 68 and 69, with point 14 for the normal form."""

import itertools
import random

from scanpages.edits import diff, normalized, patch
from scanpages.errors import InvalidScript
from scanpages.merging import merged, rebased
from tests.support import ProgramTest


def slow_gaps(script):
    """What a script says: for each item of the old list whether it is kept, and for each gap its items."""
    kept = []
    gaps = {}
    for kind, what in script:
        if kind == "add":
            gaps[len(kept)] = what
        else:
            kept += [kind == "keep"] * what
    return kept, gaps


def slow_merged_list(old, first, second):
    """The list that the merged script makes, and the conflicts, in the words of the document."""
    kept, gaps = slow_gaps(first)
    other_kept, other_gaps = slow_gaps(second)
    new = []
    conflicts = []
    for gap in range(len(old) + 1):
        items = [given[gap] for given in (gaps, other_gaps) if gap in given]
        if len(items) == 2 and items[0] == items[1]:
            items = items[:1]
        if len(items) == 2:
            conflicts.append((gap, *items))
        new += [item for given in items for item in given]
        if gap < len(old) and kept[gap] and other_kept[gap]:
            new.append(old[gap])
    return new, conflicts


def all_scripts(count, choices=((), (7,), (8,), (7, 8))):
    """All scripts in normal form for a list of so many items, with some choices for the items of each gap."""
    found = {}
    for keeps in itertools.product(("keep", "drop"), repeat=count):
        for added in itertools.product(choices, repeat=count + 1):
            steps = []
            for gap in range(count + 1):
                steps += [("add", added[gap])] if added[gap] else []
                steps += [(keeps[gap], 1)] if gap < count else []
            script = normalized(steps)
            found[tuple(script)] = script
    return list(found.values())


def random_script(chance, count):
    """A script in normal form for a list of so many items, chosen by chance."""
    steps = []
    for gap in range(count + 1):
        if chance.randrange(4) == 0:
            steps.append(("add", tuple(chance.choices((70, 71), k=chance.randrange(1, 3)))))
        if gap < count:
            steps.append((chance.choice(("keep", "keep", "drop")), 1))
    return normalized(steps)


class MergingTest(ProgramTest):

    def check(self, old, first, second):
        """Merges two scripts, and checks the result and both ways of rebasing."""
        result = self.pure(merged, old, first, second)
        self.assertIsInstance(result, tuple)
        script, conflicts = result
        new, expected_conflicts = slow_merged_list(old, first, second)
        self.assertEqual(new, patch(old, script))
        self.assertEqual(expected_conflicts, conflicts)
        self.assertEqual(normalized(script), script)
        # The list alone does not tell which items are kept.
        kept, other_kept = slow_gaps(first)[0], slow_gaps(second)[0]
        self.assertEqual([one and other for one, other in zip(kept, other_kept)], slow_gaps(script)[0])
        later = self.check_rebased(old, second, first, True)
        self.assertEqual(new, patch(patch(old, first), later))
        earlier = self.check_rebased(old, first, second, False)
        self.assertEqual(new, patch(patch(old, second), earlier))
        return script, conflicts

    def check_rebased(self, old, script, over, later):
        """Rebases a script, and checks its form and that it drops and adds no more than is said."""
        found = rebased(old, script, over, later=later)
        self.assertEqual(found, rebased(list(old), list(script), list(over), later=later))
        self.assertIsInstance(found, list)
        self.assertEqual(normalized(found), found)
        kept, gaps = slow_gaps(script)
        over_kept, over_gaps = slow_gaps(over)
        dropped = sum(1 for one, other in zip(kept, over_kept) if other and not one)
        self.assertEqual(dropped, sum(what for kind, what in found if kind == "drop"))
        own = sorted(item for gap, items in gaps.items() if over_gaps.get(gap) != items for item in items)
        self.assertEqual(own, sorted(item for kind, what in found if kind == "add" for item in what))
        return found


class MergedTest(MergingTest):

    def test_example(self):
        found = merged([5, 6], [("keep", 1), ("add", (1,)), ("keep", 1)], [("keep", 1), ("add", (2,)), ("keep", 1)])
        self.assertEqual(([("keep", 1), ("add", (1, 2)), ("keep", 1)], [(1, (1,), (2,))]), found)

    def test_no_item(self):
        self.assertEqual(([], []), self.check([], [], []))
        self.assertEqual(([("add", (1,))], []), self.check([], [("add", (1,))], []))
        self.assertEqual(([("add", (1,))], []), self.check([], [], [("add", (1,))]))
        self.assertEqual(([("add", (1,))], []), self.check([], [("add", (1,))], [("add", (1,))]))
        self.assertEqual(([("add", (1, 2))], [(0, (1,), (2,))]), self.check([], [("add", (1,))], [("add", (2,))]))

    def test_scripts_that_only_keep_or_drop(self):
        keep, drop = [("keep", 3)], [("drop", 3)]
        self.assertEqual((keep, []), self.check([1, 2, 3], keep, keep))
        self.assertEqual((drop, []), self.check([1, 2, 3], drop, drop))
        self.assertEqual((drop, []), self.check([1, 2, 3], keep, drop))
        self.assertEqual((drop, []), self.check([1, 2, 3], drop, keep))

    def test_with_itself_and_with_one_that_only_keeps(self):
        chance = random.Random(1)
        for _ in range(100):
            count = chance.randrange(8)
            old = list(range(count))
            script = random_script(chance, count)
            keep = [("keep", count)] if count else []
            for first, second in ((script, script), (script, keep), (keep, script)):
                self.assertEqual((script, []), self.check(old, first, second))

    def test_drops(self):
        first = [("drop", 1), ("keep", 3)]
        second = [("drop", 2), ("keep", 2)]
        self.assertEqual((second, []), self.check([1, 2, 3, 4], first, second))
        second = [("keep", 3), ("drop", 1)]
        self.assertEqual(([("drop", 1), ("keep", 2), ("drop", 1)], []), self.check([1, 2, 3, 4], first, second))

    def test_gaps(self):
        old = [1, 2, 3]
        for gap in range(4):
            def with_items(*items):
                before = [("keep", gap)] if gap > 0 else []
                return before + [("add", items)] + ([("keep", 3 - gap)] if gap < 3 else [])
            keep = [("keep", 3)]
            self.assertEqual((with_items(7, 8), []), self.check(old, with_items(7, 8), keep))
            self.assertEqual((with_items(7, 8), []), self.check(old, keep, with_items(7, 8)))
            self.assertEqual((with_items(7, 8), []), self.check(old, with_items(7, 8), with_items(7, 8)))
            self.assertEqual((with_items(7, 8), [(gap, (7,), (8,))]), self.check(old, with_items(7), with_items(8)))
            self.assertEqual((with_items(8, 7), [(gap, (8,), (7,))]), self.check(old, with_items(8), with_items(7)))
            self.assertEqual((with_items(7, 7, 8), [(gap, (7,), (7, 8))]),
                             self.check(old, with_items(7), with_items(7, 8)))

    def test_conflicts_in_their_order(self):
        first = [("add", (1,)), ("keep", 1), ("add", (2,)), ("keep", 1), ("add", (3,)), ("keep", 1), ("add", (4,))]
        second = [("add", (5,)), ("keep", 1), ("add", (2,)), ("keep", 1), ("add", (6, 7)), ("drop", 1), ("add", (8,))]
        script, conflicts = self.check([90, 91, 92], first, normalized(second))
        self.assertEqual([(0, (1,), (5,)), (3, (4,), (6, 7, 8))], conflicts)
        self.assertEqual([("add", (1, 5)), ("keep", 1), ("add", (2,)), ("keep", 1), ("drop", 1),
                          ("add", (3, 4, 6, 7, 8))], script)

    def test_adds_and_drops_meet(self):
        # The gap of an add step lies behind what is dropped before it.
        first = [("drop", 2), ("add", (7,)), ("keep", 1)]
        second = [("add", (8,)), ("keep", 3)]
        self.assertEqual(([("drop", 2), ("add", (8, 7)), ("keep", 1)], []), self.check([1, 2, 3], first, second))
        self.assertEqual(([("drop", 2), ("add", (8, 7)), ("keep", 1)], []), self.check([1, 2, 3], second, first))
        second = [("keep", 1), ("drop", 1), ("add", (8,)), ("keep", 1)]
        self.assertEqual(([("drop", 2), ("add", (7, 8)), ("keep", 1)], [(2, (7,), (8,))]),
                         self.check([1, 2, 3], first, second))

    def test_all_short_scripts(self):
        for count in range(2):
            scripts = all_scripts(count)
            for first, second in itertools.product(scripts, repeat=2):
                self.check(list(range(50, 50 + count)), first, second)
        scripts = all_scripts(2, ((), (7,), (8,)))
        for first, second in itertools.product(scripts, scripts[::3]):
            self.check([50, 51], first, second)

    def test_scripts_by_chance(self):
        chance = random.Random(2)
        found = 0
        for _ in range(300):
            count = chance.randrange(12)
            old = [chance.randrange(3) for _ in range(count)]
            found += len(self.check(old, random_script(chance, count), random_script(chance, count))[1])
        self.assertGreater(found, 50)

    def test_scripts_of_diff(self):
        chance = random.Random(3)
        for _ in range(60):
            old, first, second = [[chance.randrange(3) for _ in range(chance.randrange(20))] for _ in range(3)]
            self.check(old, diff(old, first), diff(old, second))

    def test_long_lists(self):
        old = [at % 256 for at in range(4000)]
        first = diff(old, old[:1000] + [9] * 50 + old[1100:])
        second = diff(old, old[:3000] + [8] * 70)
        self.assertEqual([], self.check(old, first, second)[1])

    def test_scripts_that_do_not_fit(self):
        good = [("keep", 1), ("drop", 1), ("add", (5,)), ("keep", 1)]
        for wrong in ([], [("keep", 2)], [("keep", 4)], [("drop", 2)], [("drop", 4)], [("add", (1,))],
                      [("keep", 1), ("drop", 1), ("add", (5,))], [("keep", 10 ** 20)],
                      [("keep", 1), ("drop", 2), ("add", (5,)), ("keep", 1)]):
            for call in (merged, rebased):
                self.raised(InvalidScript, call, [1, 2, 3], good, wrong)
                self.raised(InvalidScript, call, [1, 2, 3], wrong, good)
                self.raised(InvalidScript, call, [1, 2, 3], wrong, wrong)
        for call in (merged, rebased):
            self.raised(InvalidScript, call, [], good, [])
            self.raised(InvalidScript, call, [], [], good)
            self.raised(InvalidScript, call, [1, 2], good, good)
            self.raised(InvalidScript, call, [1, 2, 3, 4], good, good)
            call([1, 2, 3], good, good)
            call([], [], [("add", (1,))])


class RebasedTest(MergingTest):

    def test_later_is_the_default(self):
        own = [("keep", 1), ("add", (1,)), ("keep", 1)]
        over = [("keep", 1), ("add", (2,)), ("keep", 1)]
        self.assertEqual([("keep", 2), ("add", (1,)), ("keep", 1)], self.pure(rebased, [5, 6], own, over))
        self.assertEqual([("keep", 2), ("add", (1,)), ("keep", 1)], rebased([5, 6], own, over, later=True))
        self.assertEqual([("keep", 1), ("add", (1,)), ("keep", 2)], rebased([5, 6], own, over, later=False))

    def test_later_is_given_by_its_name_alone(self):
        with self.assertRaises(TypeError):
            rebased([], [], [], True)

    def test_the_same_items(self):
        both = [("add", (1, 2)), ("keep", 1)]
        for later in (True, False):
            self.assertEqual([("keep", 3)], rebased([5], both, both, later=later))
            # Items that begin alike are different ones all the same.
            longer = [("add", (1, 2, 3)), ("keep", 1)]
            expected = [("keep", 2), ("add", (1, 2, 3)), ("keep", 1)] if later else [("add", (1, 2, 3)), ("keep", 3)]
            self.assertEqual(expected, rebased([5], longer, both, later=later))

    def test_drops(self):
        for later in (True, False):
            self.assertEqual([("drop", 1)], rebased([5, 6], [("drop", 2)], [("drop", 1), ("keep", 1)], later=later))
            self.assertEqual([("keep", 1)], rebased([5, 6], [("drop", 1), ("keep", 1)],
                                                    [("drop", 1), ("keep", 1)], later=later))
            self.assertEqual([], rebased([5, 6], [("drop", 2)], [("drop", 2)], later=later))
            self.assertEqual([], rebased([], [], [], later=later))
            self.assertEqual([("add", (1,))], rebased([5], [("keep", 1), ("add", (1,))], [("drop", 1)], later=later))

    def test_normal_form(self):
        # What is dropped behind an added item comes before it.
        own = [("add", (1,)), ("keep", 1), ("drop", 1)]
        over = [("drop", 1), ("keep", 1)]
        for later in (True, False):
            self.assertEqual([("drop", 1), ("add", (1,))], rebased([5, 6], own, over, later=later))
