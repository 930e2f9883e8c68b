"""Points 8, 9 and 10, and the functions over volumes of the interface."""

import random

from scanpages.errors import NoSuchPath
from scanpages.volumes import gathered, leaves, lookup, removed, replaced, volume_fault
from tests.support import ProgramTest, nested, text_folder, wide

TEXT = ("text", "x")
OTHER = ("text", "y")
TABLE = ("table", ("k",), (("v",), ("w",)))
TREE = ("folder", (("a", TEXT), ("b", ("folder", (("c", TABLE), ("d", ("folder", ()))))), ("e", OTHER)))


def random_volume(chance, folders):
    """A sound volume, chosen by chance, with at most so many folders around each other."""
    kind = chance.randrange(4 if folders else 2)
    if kind == 0:
        return ("text", "".join(chance.choice("ab \n~") for _ in range(chance.randrange(4))))
    if kind == 1:
        width = chance.randrange(1, 4)
        rows = [tuple(chance.choice(("", "x")) for _ in range(width)) for _ in range(chance.randrange(3))]
        return ("table", ("h",) * width, tuple(rows))
    names = sorted(chance.sample(("a", "b", "c-1", ".", "9"), chance.randrange(4)))
    return ("folder", tuple((name, random_volume(chance, folders - 1)) for name in names))


def places(volume, path=()):
    """All places of a volume, a folder before its entries."""
    found = [(path, volume)]
    if volume[0] == "folder":
        for name, inner in volume[1]:
            found.extend(places(inner, (*path, name)))
    return found


class FaultTest(ProgramTest):

    def test_example(self):
        volume = ("folder", (("a", TEXT), ("b", ("table", ("k",), (("v", "w"),)))))
        self.assertEqual(("b",), self.pure(volume_fault, volume))

    def test_sound(self):
        table = ("table", ("", "b"), (("", ""), ("x\n", "~ ")))
        for volume in (TEXT, ("text", ""), TABLE, ("table", ("k",), ()), table, ("folder", ()), TREE):
            self.assertIsNone(self.pure(volume_fault, volume))

    def test_characters_of_a_text(self):
        for code in range(140):
            allowed = code == 10 or (32 <= code <= 126 and code != 37)
            for content in (chr(code), "a" + chr(code), chr(code) + "a"):
                self.assertEqual(None if allowed else (), volume_fault(("text", content)))
                inside = ("folder", (("a", TEXT), ("b", ("text", content))))
                self.assertEqual(None if allowed else ("b",), volume_fault(inside))

    def test_faulty_tables(self):
        for header, rows in (
            ((), ()),
            ((), ((),)),
            (("k",), ((),)),
            (("k",), (("a",), ("a", "b"))),
            (("k", "l"), (("a",),)),
            (("%",), ()),
            (("k", "\t"), ()),
            (("k",), (("%",),)),
            (("k", "l"), (("a", "b"), ("a", "\x7f"))),
        ):
            with self.subTest(header=header, rows=rows):
                self.assertEqual((), volume_fault(("table", header, rows)))
                inside = ("folder", (("t", ("table", header, rows)),))
                self.assertEqual(("t",), volume_fault(inside))

    def test_names(self):
        for name in ("a", "z", "0", "9", "-", ".", "a" * 20, "abc-1.2", "..", "---"):
            self.assertIsNone(volume_fault(text_folder(name)), name)
        for name in ("", "a" * 21, "A", "a_b", "a b", "a/b", "\n", "%", "\u00e9", "\u0663", "a\n", "aB"):
            self.assertEqual((), volume_fault(text_folder(name)), name)

    def test_order_of_names(self):
        self.assertIsNone(volume_fault(text_folder("-", ".", "0", "9", "a", "aa", "b")))
        self.assertEqual((), volume_fault(text_folder("b", "a")))
        self.assertEqual((), volume_fault(text_folder("a", "a")))
        self.assertEqual((), volume_fault(text_folder("a", "c", "b")))
        self.assertEqual((), volume_fault(text_folder("10", "9", "8")))
        self.assertEqual(("x",), volume_fault(("folder", (("x", text_folder("b", "a")),))))

    def test_first_fault_is_found(self):
        bad = ("text", "%")
        self.assertEqual(("a", "x"), volume_fault(("folder", (("a", ("folder", (("x", bad),))), ("b", bad)))))
        self.assertEqual(("a",), volume_fault(("folder", (("a", bad), ("b", ("table", (), ()))))))
        self.assertEqual(("b", "c"), volume_fault(("folder", (("a", TEXT), ("b", ("folder", (("c", bad),)))))))

    def test_folder_comes_before_its_entries(self):
        self.assertEqual((), volume_fault(("folder", (("b", ("text", "%")), ("a", TEXT)))))
        faulty = ("folder", (("", ("table", (), ())),))
        self.assertEqual(("f",), volume_fault(("folder", (("f", faulty), ("g", ("text", "%"))))))

    def test_depth(self):
        self.assertIsNone(volume_fault(nested(8)))
        self.assertIsNone(volume_fault(nested(8, ("folder", ()))))
        self.assertEqual((), volume_fault(nested(9)))
        self.assertEqual((), volume_fault(nested(9, ("folder", ()))))
        self.assertEqual((), volume_fault(nested(300)))
        beside = ("folder", (("a", TEXT), ("b", nested(8)), ("c", TEXT)))
        self.assertEqual((), volume_fault(beside))

    def test_size(self):
        self.assertIsNone(volume_fault(wide(200)))
        self.assertEqual((), volume_fault(wide(201)))
        self.assertIsNone(volume_fault(("folder", (("a", wide(100)), ("b", wide(99))))))
        self.assertEqual((), volume_fault(("folder", (("a", wide(100)), ("b", wide(100))))))

    def test_faults_come_before_depth_and_size(self):
        self.assertEqual(("a",) * 8, volume_fault(nested(9, ("text", "%"))))
        entries = wide(300)[1]
        self.assertEqual(("zz",), volume_fault(("folder", (*entries, ("zz", ("text", "%"))))))


class PlacesTest(ProgramTest):

    def test_leaves(self):
        expected = [(("a",), TEXT), (("b", "c"), TABLE), (("e",), OTHER)]
        self.assertEqual(expected, self.pure(leaves, TREE))
        self.assertEqual([((), TEXT)], self.pure(leaves, TEXT))
        self.assertEqual([((), TABLE)], leaves(TABLE))
        self.assertEqual([], self.pure(leaves, ("folder", ())))
        self.assertEqual([], leaves(("folder", (("a", ("folder", ())),))))

    def test_lookup(self):
        self.assertEqual(TREE, self.pure(lookup, TREE, ()))
        self.assertEqual(TEXT, lookup(TREE, ("a",)))
        self.assertEqual(TABLE, lookup(TREE, ("b", "c")))
        self.assertEqual(("folder", ()), lookup(TREE, ("b", "d")))
        self.assertEqual(TEXT, lookup(TEXT, ()))

    def test_lookup_leads_nowhere(self):
        for path in (("x",), ("",), ("a", "a"), ("b", "c", "k"), ("b", "d", "a"), ("b", "x"), ("x", "a")):
            self.raised(NoSuchPath, lookup, TREE, path)
        self.raised(NoSuchPath, lookup, TEXT, ("a",))
        self.raised(NoSuchPath, lookup, TABLE, ("k",))

    def test_replaced_in_its_place(self):
        self.assertEqual(OTHER, self.pure(replaced, TREE, (), OTHER))
        self.assertEqual(OTHER, replaced(TEXT, (), OTHER))
        volume = ("folder", (("a", TEXT), ("b", ("folder", (("c", TEXT), ("d", TEXT)))), ("e", TEXT)))
        expected = ("folder", (("a", TEXT), ("b", ("folder", (("c", TABLE), ("d", TEXT)))), ("e", TEXT)))
        self.assertEqual(expected, self.pure(replaced, volume, ("b", "c"), TABLE))
        expected = ("folder", (("a", TEXT), ("b", OTHER), ("e", TEXT)))
        self.assertEqual(expected, replaced(volume, ("b",), OTHER))

    def test_replaced_adds_an_entry_in_order(self):
        volume = text_folder("b", "d")
        for name, names in (("a", "abd"), ("c", "bcd"), ("e", "bde")):
            entries = [(key, TABLE if key == name else ("text", "")) for key in names]
            self.assertEqual(("folder", tuple(entries)), self.pure(replaced, volume, (name,), TABLE))
        self.assertEqual(("folder", (("a", TEXT),)), replaced(("folder", ()), ("a",), TEXT))
        inside = replaced(TREE, ("b", "d", "x"), TEXT)
        self.assertEqual(("folder", (("x", TEXT),)), lookup(inside, ("b", "d")))

    def test_replaced_checks_neither_names_nor_result(self):
        self.assertEqual(("folder", (("A b", ("text", "%")),)), replaced(("folder", ()), ("A b",), ("text", "%")))
        self.assertEqual(("folder", (("", nested(9)), ("a", TEXT))),
                         replaced(("folder", (("a", TEXT),)), ("",), nested(9)))

    def test_replaced_leads_nowhere(self):
        for path in (("a", "x"), ("x", "y"), ("b", "x", "y"), ("b", "c", "x"), ("a", "x", "y"), ("b", "d", "x", "y")):
            self.raised(NoSuchPath, replaced, TREE, path, TEXT)
        self.raised(NoSuchPath, replaced, TEXT, ("a",), TEXT)

    def test_removed(self):
        self.assertEqual(("folder", (("b", OTHER),)),
                         self.pure(removed, ("folder", (("a", TEXT), ("b", OTHER))), ("a",)))
        self.assertEqual(("folder", ()), removed(("folder", (("a", TEXT),)), ("a",)))
        expected = ("folder", (("a", TEXT), ("b", ("folder", (("c", TABLE),))), ("e", OTHER)))
        self.assertEqual(expected, self.pure(removed, TREE, ("b", "d")))
        self.assertEqual(("folder", (("a", TEXT), ("e", OTHER))), removed(TREE, ("b",)))

    def test_removed_leads_nowhere(self):
        for path in ((), ("x",), ("a", "x"), ("b", "x"), ("b", "c", "k"), ("x", "y")):
            self.raised(NoSuchPath, removed, TREE, path)
        self.raised(NoSuchPath, removed, TEXT, ())
        self.raised(NoSuchPath, removed, TEXT, ("a",))

    def test_by_chance(self):
        chance = random.Random(9)
        for _ in range(200):
            volume = random_volume(chance, 4)
            self.assertIsNone(volume_fault(volume))
            found = places(volume)
            self.assertEqual([place for place in found if place[1][0] != "folder"], leaves(volume))
            for path, place in found:
                self.assertEqual(place, lookup(volume, path))
                self.assertEqual(volume, replaced(volume, path, place))
                if path:
                    without = removed(volume, path)
                    self.raised(NoSuchPath, lookup, without, path)
                    self.assertEqual(volume, replaced(without, path, place))


class GatheredTest(ProgramTest):

    def test_example(self):
        expected = ("folder", (("a", TEXT), ("b", ("folder", (("c", OTHER),)))))
        self.assertEqual(expected, self.pure(gathered, [(("b", "c"), OTHER), (("a",), TEXT)]))

    def test_one_leaf(self):
        self.assertEqual(TABLE, gathered([((), TABLE)]))
        self.assertEqual(("folder", (("a", ("folder", (("b", TEXT),))),)), gathered([(("a", "b"), TEXT)]))

    def test_names_are_not_checked(self):
        self.assertEqual(("folder", (("", TEXT), ("A b", OTHER))), gathered([(("A b",), OTHER), (("",), TEXT)]))
        self.assertEqual(nested(20, TEXT), gathered([(("a",) * 19, TEXT)]))

    def test_any_order(self):
        chance = random.Random(5)
        pairs = [(("b",), TEXT), (("a", "b"), TEXT), (("a", "bb", "x"), OTHER), (("a", "c"), TABLE), (("aa",), TEXT)]
        inside = ("folder", (("b", TEXT), ("bb", ("folder", (("x", OTHER),))), ("c", TABLE)))
        expected = ("folder", (("a", inside), ("aa", TEXT), ("b", TEXT)))
        for _ in range(50):
            chance.shuffle(pairs)
            self.assertEqual(expected, self.pure(gathered, pairs))

    def test_leaves_are_gathered_again(self):
        chance = random.Random(6)
        for _ in range(300):
            volume = random_volume(chance, 4)
            pairs = leaves(volume)
            if pairs == []:
                continue
            again = gathered(pairs[::-1])
            self.assertEqual(pairs, leaves(again))
            self.assertNotIn(("folder", ()), [place for _, place in places(again)])
            if ("folder", ()) not in [place for _, place in places(volume)]:
                self.assertEqual(volume, again)

    def test_refused(self):
        self.raised(NoSuchPath, gathered, [])
        self.raised(NoSuchPath, gathered, [((), TEXT), ((), TEXT)])
        self.raised(NoSuchPath, gathered, [(("a",), TEXT), (("a",), TEXT)])
        self.raised(NoSuchPath, gathered, [(("a",), TEXT), (("b",), TEXT), (("a",), OTHER)])
        self.raised(NoSuchPath, gathered, [((), TEXT), (("a",), TEXT)])
        self.raised(NoSuchPath, gathered, [(("a", "b"), TEXT), (("a",), TEXT)])
        self.raised(NoSuchPath, gathered, [(("a", "b", "c"), TEXT), (("a", "a"), TEXT), (("a",), TEXT)])

    def test_equal_beginnings_of_names_are_no_beginnings_of_paths(self):
        expected = ("folder", (("a", TEXT), ("ab", OTHER)))
        self.assertEqual(expected, gathered([(("ab",), OTHER), (("a",), TEXT)]))
