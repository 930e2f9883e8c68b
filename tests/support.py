"""What several tests need."""

import copy
import itertools
import unittest


def lists_over(items, longest):
    """All lists over some items, from the empty one to those of the greatest length."""
    for length in range(longest + 1):
        for items_of_list in itertools.product(items, repeat=length):
            yield list(items_of_list)


def text_folder(*names):
    """A folder with an empty text for each name."""
    return ("folder", tuple((name, ("text", "")) for name in names))


def nested(depth, inside=("text", "")):
    """A volume of depth - 1 folders, one in the other, with another volume inside."""
    volume = inside
    for _ in range(depth - 1):
        volume = ("folder", (("a", volume),))
    return volume


def wide(size):
    """A folder with so many volumes in it that its size is the given one."""
    return ("folder", tuple((f"{number:04}", ("text", "")) for number in range(size - 1)))


def plain(value):
    """A copy of a value in which each object is replaced by its class and its attributes."""
    if isinstance(value, (list, tuple)):
        return type(value)(plain(item) for item in value)
    if isinstance(value, dict):
        return {key: plain(item) for key, item in value.items()}
    if hasattr(value, "__dict__"):
        return type(value), plain(vars(value))
    return value


def spoil(value):
    """Changes all lists in a value, also those in lists and tuples."""
    if isinstance(value, (list, tuple)):
        for item in value:
            spoil(item)
    if isinstance(value, list):
        value.append("changed")


class ProgramTest(unittest.TestCase):
    """A test case that knows what the document says of all functions."""

    def raised(self, error, call, *arguments):
        """The error that a call raises, which has exactly this class; the arguments stay as they were."""
        before = plain(arguments)
        with self.assertRaises(error) as caught:
            call(*arguments)
        self.assertIs(type(caught.exception), error)
        self.assertEqual(before, plain(arguments))
        return caught.exception

    def pure(self, call, *arguments):
        """The result of a call that changes no argument, gives equal results, and gives new lists."""
        before = plain(arguments)
        first = call(*arguments)
        kept = copy.deepcopy(first)
        second = call(*arguments)
        self.assertEqual(before, plain(arguments))
        self.assertEqual(plain(first), plain(second))
        spoil(first)
        self.assertEqual(before, plain(arguments))
        self.assertEqual(plain(kept), plain(second))
        self.assertEqual(plain(kept), plain(call(*arguments)))
        self.assertIs(type(kept), type(second))
        return kept
