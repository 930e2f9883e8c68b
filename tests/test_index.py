"""Point 71, with points 8 to 10 for the order of the leaves."""

import random
import string

from scanpages.index import find, index_volume, words
from scanpages.volumes import leaves, volume_fault
from tests.support import ProgramTest, nested, text_folder, wide

LETTERS_AND_DIGITS = string.ascii_letters + string.digits
ALLOWED = "\n" + "".join(chr(code) for code in range(32, 127) if code != 37)


def slow_words(text):
    """The words of a text, character by character."""
    found = set()
    word = ""
    for character in text + " ":
        if character in LETTERS_AND_DIGITS:
            word += character
        else:
            found.add(word.lower())
            word = ""
    return sorted(found - {""})


def slow_index(volume):
    """The rows of an index: each word that some leaf has, with the paths of all leaves that have it."""
    texts = [(path, [leaf[1]] if leaf[0] == "text" else [text for row in (leaf[1], *leaf[2]) for text in row])
             for path, leaf in leaves(volume)]
    found = sorted({word for _, row in texts for text in row for word in slow_words(text)})
    rows = []
    for word in found:
        paths = [path for path, row in texts if any(word in slow_words(text) for text in row)]
        rows.append((word, " ".join("/".join(path) or "/" for path in paths)))
    return ("table", ("word", "paths"), tuple(rows))


class WordsTest(ProgramTest):

    def check(self, text, *expected):
        """Finds the words of a text."""
        self.assertEqual(list(expected), self.pure(words, text))
        self.assertEqual(list(expected), slow_words(text))

    def test_no_word(self):
        for text in ("", " ", "\n", "...", "\n\n - \n", "".join(character for character in ALLOWED
                                                                if character not in LETTERS_AND_DIGITS)):
            self.check(text)

    def test_one_word(self):
        for text in ("word", " word", "word ", "\nword\n", "(word)", "word, word; word", "-word-word-"):
            self.check(text, "word")
        self.check("a", "a")
        self.check("0", "0")

    def test_upper_and_lower_case(self):
        self.check("Word WORD word wOrD", "word")
        self.check("Zebra apple Apple ZEBRA", "apple", "zebra")
        self.check(string.ascii_uppercase, string.ascii_lowercase)

    def test_letters_and_digits(self):
        self.check("a1 1a 11 aa A1", "11", "1a", "a1", "aa")
        self.check("x2y3-z", "x2y3", "z")
        self.check("1.5", "1", "5")
        self.check("10 9 010", "010", "10", "9")

    def test_the_beginning_and_the_end(self):
        self.check("first middle last", "first", "last", "middle")
        self.check("a-b", "a", "b")

    def test_all_characters_between_words(self):
        for character in ALLOWED:
            if character in LETTERS_AND_DIGITS:
                self.check(f"b{character}a", f"b{character}a".lower())
            else:
                self.check(f"b{character}a", "a", "b")
                self.check(f"{character}{character}b{character}", "b")

    def test_the_order(self):
        self.check("b ab a aa a1 1 z 10 2", "1", "10", "2", "a", "a1", "aa", "ab", "b", "z")

    def test_characters_that_no_text_contains(self):
        # Such strings are no texts; what is no ASCII letter or digit is no part of a word here.
        for character in "\u212a\u00e9\u0662\u00b2\t%\u00a0":
            self.assertEqual(["a", "b"], words(f"a{character}b"))

    def test_texts_by_chance(self):
        chance = random.Random(1)
        for _ in range(500):
            text = "".join(chance.choice("aAbB1 .-\n") for _ in range(chance.randrange(30)))
            self.assertEqual(slow_words(text), words(text))


class IndexTest(ProgramTest):

    def check(self, volume, *rows):
        """Makes the index of a volume, and looks up all of its words."""
        index = self.pure(index_volume, volume)
        self.assertEqual(("table", ("word", "paths"), rows), index)
        self.assertEqual(index, slow_index(volume))
        self.assertIsNone(volume_fault(index))
        for word, paths in rows:
            self.assertEqual(paths.split(" "), self.pure(find, index, word))
        return index

    def test_a_leaf_as_the_whole_volume(self):
        self.check(("text", "Two words"), ("two", "/"), ("words", "/"))
        self.check(("table", ("Name",), (("x y",), ("Z",))), ("name", "/"), ("x", "/"), ("y", "/"), ("z", "/"))

    def test_no_word(self):
        for volume in (("text", ""), ("text", "- - -"), ("folder", ()), ("table", ("",), ()), ("table", ("-",), (("",),)),
                       text_folder("a", "b"), nested(8), wide(200), ("folder", (("a", ("folder", ())),))):
            self.check(volume)

    def test_tables(self):
        table = ("table", ("key", "Value"), (("a", "one two"), ("b", "")))
        self.check(("folder", (("t", table),)), ("a", "t"), ("b", "t"), ("key", "t"), ("one", "t"), ("two", "t"),
                   ("value", "t"))

    def test_words_do_not_reach_from_one_text_into_the_next(self):
        self.check(("table", ("a", "b"), (("c", "d"), ("e", "f"))), *[(letter, "/") for letter in "abcdef"])

    def test_several_leaves(self):
        volume = ("folder", (("a", ("text", "x y x")), ("b", ("folder", (("c", ("text", "X")), ("d", ("text", "z"))))),
                             ("e", ("table", ("y",), (("z",),)))))
        self.check(volume, ("x", "a b/c"), ("y", "a e"), ("z", "b/d e"))

    def test_the_order_of_the_leaves(self):
        # The written paths do not ascend here.
        volume = ("folder", (("a", ("folder", (("b", ("text", "x")),))), ("a-c", ("text", "x")), ("a.d", ("text", "x"))))
        self.check(volume, ("x", "a/b a-c a.d"))

    def test_one_word_several_times_in_one_leaf(self):
        self.check(("folder", (("a", ("text", "x X x\nx")), ("b", ("table", ("x", "x"), (("x", "X"),))))), ("x", "a b"))

    def test_empty_folders(self):
        volume = ("folder", (("a", ("folder", ())), ("b", ("text", "x")), ("c", ("folder", (("d", ("folder", ())),)))))
        self.check(volume, ("x", "b"))

    def test_deep_volumes(self):
        self.check(nested(8, ("text", "x")), ("x", "a/a/a/a/a/a/a"))

    def test_volumes_by_chance(self):
        chance = random.Random(2)
        for _ in range(100):
            entries = []
            for name in sorted(chance.sample("abcdef", chance.randrange(7))):
                text = " ".join(chance.choices(("x", "Y", "z1", "-"), k=chance.randrange(4)))
                entries.append((name, chance.choice((("text", text), ("table", (text,), ((text,), ("y",))),
                                                     ("folder", (("k", ("text", text)),))))))
            volume = ("folder", tuple(entries))
            self.assertEqual(slow_index(volume), index_volume(volume))


class FindTest(ProgramTest):

    def test_words(self):
        volume = ("folder", (("a", ("text", "apple bread")), ("b", ("text", "Apple"))))
        index = index_volume(volume)
        self.assertEqual(["a", "b"], self.pure(find, index, "apple"))
        self.assertEqual(["a"], self.pure(find, index, "bread"))
        for word in ("app", "appl", "apples", "Apple", "BREAD", "", " ", "apple ", " apple", "apple bread", "a", "a b",
                     "word", "paths", "\n", "\u00e9"):
            self.assertEqual([], self.pure(find, index, word))

    def test_the_whole_volume(self):
        self.assertEqual(["/"], self.pure(find, index_volume(("text", "one")), "one"))

    def test_an_empty_index(self):
        for word in ("", "x", "word", "/"):
            self.assertEqual([], self.pure(find, index_volume(("text", "")), word))
