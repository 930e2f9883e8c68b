"""Point 70."""

import random

from scanpages.changes import apply_changes, compare
from scanpages.errors import NoSuchPath
from scanpages.volumes import volume_fault
from tests.support import ProgramTest, nested, text_folder, wide

TEXT = ("text", "x")
TABLE = ("table", ("a", "b"), (("1", "2"),))
EMPTY = ("folder", ())


def folder(**entries):
    """A folder with some entries, in ascending order of the names."""
    return ("folder", tuple(sorted(entries.items())))


def random_volume(chance, depth):
    """A volume, chosen by chance."""
    kind = chance.randrange(4) if depth > 1 else chance.randrange(2)
    if kind == 0:
        return ("text", chance.choice("xy"))
    if kind == 1:
        return chance.choice((TABLE, EMPTY))
    names = sorted(chance.sample("abcd", chance.randrange(5)))
    return ("folder", tuple((name, random_volume(chance, depth - 1)) for name in names))


def slow_changes(first, second, path=()):
    """The changes in the words of the document, with whole paths."""
    if first == second:
        return
    if first[0] == second[0] == "folder":
        before, after = dict(first[1]), dict(second[1])
        for name in sorted(set(before) | set(after)):
            if name not in after:
                yield ("removed", (*path, name))
            elif name not in before:
                yield ("added", (*path, name), after[name])
            else:
                yield from slow_changes(before[name], after[name], (*path, name))
    else:
        yield ("changed", path, second)


class ChangesTest(ProgramTest):

    def check(self, first, second, expected):
        """Compares two volumes, and applies what was found."""
        found = self.pure(compare, first, second)
        self.assertEqual(expected, found)
        self.assertEqual({tuple}, {type(change) for change in found} | {tuple})
        self.assertEqual({tuple}, {type(change[1]) for change in found} | {tuple})
        self.assertEqual(second, self.pure(apply_changes, first, found))


class CompareTest(ChangesTest):

    def test_equal_volumes(self):
        for volume in (TEXT, TABLE, EMPTY, text_folder("a", "b"), nested(8), wide(200)):
            self.check(volume, volume, [])
            self.check(volume, eval(repr(volume)), [])

    def test_leaves(self):
        other = ("text", "y")
        for first, second in ((TEXT, other), (TEXT, TABLE), (TABLE, TEXT), (TABLE, ("table", ("a", "b"), ())),
                              (TABLE, ("table", ("a", "c"), (("1", "2"),))), (TEXT, ("text", "")),
                              (TABLE, ("table", ("a", "b"), (("1", "3"),)))):
            self.check(first, second, [("changed", (), second)])

    def test_a_leaf_and_a_folder(self):
        for leaf in (TEXT, TABLE):
            for other in (EMPTY, text_folder("a"), nested(8)):
                self.check(leaf, other, [("changed", (), other)])
                self.check(other, leaf, [("changed", (), leaf)])

    def test_entries(self):
        first = folder(a=TEXT, b=TEXT, d=TABLE)
        self.check(first, folder(a=TEXT, b=TEXT), [("removed", ("d",))])
        self.check(first, EMPTY, [("removed", ("a",)), ("removed", ("b",)), ("removed", ("d",))])
        self.check(EMPTY, first, [("added", ("a",), TEXT), ("added", ("b",), TEXT), ("added", ("d",), TABLE)])
        self.check(first, folder(a=TEXT, b=TABLE, d=TABLE), [("changed", ("b",), TABLE)])
        self.check(first, folder(b=TABLE, c=EMPTY, e=TEXT),
                   [("removed", ("a",)), ("changed", ("b",), TABLE), ("added", ("c",), EMPTY), ("removed", ("d",)),
                    ("added", ("e",), TEXT)])

    def test_depths(self):
        first = folder(a=folder(b=folder(c=TEXT, d=TEXT)), e=TEXT)
        second = folder(a=folder(b=folder(c=TABLE, f=EMPTY), g=TEXT), e=EMPTY)
        self.check(first, second, [("changed", ("a", "b", "c"), TABLE), ("removed", ("a", "b", "d")),
                                   ("added", ("a", "b", "f"), EMPTY), ("added", ("a", "g"), TEXT),
                                   ("changed", ("e",), EMPTY)])
        self.check(second, first, [("changed", ("a", "b", "c"), TEXT), ("added", ("a", "b", "d"), TEXT),
                                   ("removed", ("a", "b", "f")), ("removed", ("a", "g")), ("changed", ("e",), TEXT)])
        self.check(nested(8), nested(8, TABLE), [("changed", ("a",) * 7, TABLE)])

    def test_folders_in_folders(self):
        self.check(folder(a=EMPTY), folder(a=text_folder("b")), [("added", ("a", "b"), ("text", ""))])
        self.check(folder(a=text_folder("b")), folder(a=EMPTY), [("removed", ("a", "b"))])
        self.check(folder(a=text_folder("b")), EMPTY, [("removed", ("a",))])
        self.check(EMPTY, folder(a=text_folder("b")), [("added", ("a",), text_folder("b"))])
        self.check(folder(a=EMPTY), folder(a=TEXT), [("changed", ("a",), TEXT)])
        self.check(folder(a=TEXT), folder(a=EMPTY), [("changed", ("a",), EMPTY)])

    def test_the_order_of_names(self):
        first = text_folder("-", "a", "a-b", "b.c")
        second = text_folder("0", "a.", "aa", "z")
        expected = sorted([("removed", (name,)) for name, _ in first[1]]
                          + [("added", (name,), ("text", "")) for name, _ in second[1]], key=lambda change: change[1])
        self.check(first, second, expected)

    def test_volumes_by_chance(self):
        chance = random.Random(1)
        sizes = set()
        for _ in range(400):
            first, second = random_volume(chance, 4), random_volume(chance, 4)
            self.assertIsNone(volume_fault(first))
            expected = list(slow_changes(first, second))
            sizes.add(len(expected))
            self.check(first, second, expected)
        self.assertGreater(len(sizes), 5)


class ApplyTest(ChangesTest):

    def test_no_change(self):
        for volume in (TEXT, TABLE, EMPTY, wide(200)):
            self.assertEqual(volume, self.pure(apply_changes, volume, []))

    def test_one_after_the_other(self):
        changes = [("added", ("b",), EMPTY), ("added", ("b", "c"), TEXT), ("changed", ("b", "c"), TABLE),
                   ("removed", ("a",)), ("added", ("a",), TABLE)]
        self.assertEqual(folder(a=TABLE, b=folder(c=TABLE)), self.pure(apply_changes, folder(a=TEXT), changes))
        self.assertEqual(TABLE, apply_changes(TEXT, [("changed", (), EMPTY), ("added", ("a",), TEXT),
                                                     ("changed", (), TABLE)]))

    def test_added_and_changed_put_the_volume_there(self):
        for kind in ("added", "changed"):
            self.assertEqual(folder(a=TABLE), apply_changes(folder(a=TEXT), [(kind, ("a",), TABLE)]))
            self.assertEqual(folder(a=TEXT, b=TABLE), apply_changes(folder(a=TEXT), [(kind, ("b",), TABLE)]))
            self.assertEqual(TABLE, apply_changes(folder(a=TEXT), [(kind, (), TABLE)]))

    def test_paths_that_cannot_be_removed(self):
        volume = folder(a=folder(b=TEXT), c=TEXT)
        for path in ((), ("b",), ("a", "c"), ("a", "b", "c"), ("c", "a"), ("d", "e")):
            self.raised(NoSuchPath, apply_changes, volume, [("removed", path)])
            self.raised(NoSuchPath, apply_changes, volume, [("added", ("x",), TEXT), ("removed", path)])
        self.raised(NoSuchPath, apply_changes, TEXT, [("removed", ())])
        self.raised(NoSuchPath, apply_changes, TEXT, [("removed", ("a",))])
        self.raised(NoSuchPath, apply_changes, volume, [("removed", ("c",)), ("removed", ("c",))])

    def test_paths_whose_folder_does_not_exist(self):
        volume = folder(a=folder(b=TEXT), c=TEXT)
        for kind in ("added", "changed"):
            for path in (("d", "e"), ("c", "d"), ("a", "b", "c"), ("a", "d", "e")):
                self.raised(NoSuchPath, apply_changes, volume, [(kind, path, TEXT)])
                self.raised(NoSuchPath, apply_changes, volume, [("removed", ("c",)), (kind, path, TEXT)])
            self.raised(NoSuchPath, apply_changes, TEXT, [(kind, ("a",), TEXT)])
            self.raised(NoSuchPath, apply_changes, volume, [("removed", ("a",)), (kind, ("a", "b"), TEXT)])
