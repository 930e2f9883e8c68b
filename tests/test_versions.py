"""Points 17, 18 and 19."""

import random

from scanpages.edits import cost, normalized, patch
from scanpages.errors import EncodingError, NoSuchVersion
from scanpages.versions import History, decode_history, encode_history
from tests.support import ProgramTest, lists_over
from tests.test_edits import common


def history_of(*versions):
    """A history with these versions."""
    history = History(versions[0])
    for octets in versions[1:]:
        history.record(octets)
    return history


def random_history(chance):
    """A history with some short versions."""
    versions = [[chance.randrange(4) for _ in range(chance.randrange(6))] for _ in range(chance.randrange(1, 6))]
    return history_of(*versions)


class HistoryTest(ProgramTest):

    def test_example(self):
        history = History([1, 2])
        history.record([1, 2, 3])
        self.assertEqual((2, [1, 2, 3], [2, 2, 1, 2, 2, 0, 2, 2, 1, 3]),
                         (len(history), history.version(1), encode_history(history)))

    def test_new_history(self):
        history = History([7, 8])
        self.assertEqual((1, (7, 8), ()), (len(history), history.first, history.scripts))
        self.assertEqual([7, 8], history.version(0))
        self.assertIsInstance(history.version(0), list)

    def test_interface_stands_in_the_class(self):
        for name in ("__init__", "__len__", "record", "version", "shorten"):
            self.assertIn(name, vars(History))

    def test_scripts(self):
        history = history_of([1, 2, 3], [1, 3, 4], [1, 3, 4], [], [], [9])
        expected = (
            (("keep", 1), ("drop", 1), ("keep", 1), ("add", (4,))),
            (("keep", 3),),
            (("drop", 3),),
            (),
            (("add", (9,)),),
        )
        self.assertEqual(expected, history.scripts)
        self.assertEqual((1, 2, 3), history.first)
        self.assertIsInstance(history.first, tuple)
        self.assertIsInstance(history.scripts, tuple)
        self.assertIsInstance(history.scripts[0], tuple)

    def test_scripts_are_normal_and_have_the_least_cost(self):
        chance = random.Random(1)
        for _ in range(100):
            versions = [[chance.randrange(3) for _ in range(chance.randrange(9))] for _ in range(6)]
            history = history_of(*versions)
            self.assertEqual(6, len(history))
            for at, script in enumerate(history.scripts):
                old, new = versions[at], versions[at + 1]
                self.assertEqual(list(script), normalized(list(script)))
                self.assertEqual(new, patch(old, list(script)))
                self.assertEqual(len(old) + len(new) - 2 * common(old, new), cost(list(script)))
            self.assertEqual(versions, [history.version(number) for number in range(6)])

    def test_no_such_version(self):
        history = history_of([1], [2])
        for number in (-1, -2, 2, 3, 100, 10 ** 5000):
            self.raised(NoSuchVersion, history.version, number)

    def test_changes_afterwards_change_nothing(self):
        first, second = [1, 2], [1, 2, 3]
        history = History(first)
        history.record(second)
        first.append(9)
        second.insert(0, 9)
        history.version(0).append(8)
        history.version(1).clear()
        self.assertEqual([[1, 2], [1, 2, 3]], [history.version(0), history.version(1)])
        self.assertIsNot(history.version(1), history.version(1))
        octets = encode_history(history)
        octets.append(5)
        self.assertEqual([2, 2, 1, 2, 2, 0, 2, 2, 1, 3], encode_history(history))

    def test_record_changes_no_argument(self):
        history = History([])
        octets = [3, 4]
        self.assertIsNone(history.record(octets))
        self.assertEqual([3, 4], octets)


class ShortenTest(ProgramTest):

    def setUp(self):
        self.versions = [[1], [1, 2], [], [5, 1], [5]]
        self.history = history_of(*self.versions)

    def check(self, history, versions):
        self.assertEqual(versions, [history.version(number) for number in range(len(history))])
        self.assertEqual(tuple(versions[0]), history.first)
        self.assertIsInstance(history.scripts, tuple)

    def test_shorten(self):
        for count in range(5):
            history = history_of(*self.versions)
            scripts = history.scripts
            self.assertIsNone(history.shorten(count))
            self.check(history, self.versions[count:])
            self.assertEqual(scripts[count:], history.scripts)

    def test_refused(self):
        for count in (-1, -4, 5, 6, 100, -10 ** 5000):
            self.raised(NoSuchVersion, self.history.shorten, count)
            self.check(self.history, self.versions)

    def test_one_version(self):
        history = History([7])
        history.shorten(0)
        self.check(history, [[7]])
        self.raised(NoSuchVersion, history.shorten, 1)

    def test_record_after_shorten(self):
        self.history.shorten(3)
        self.history.record([6])
        self.check(self.history, [[5, 1], [5], [6]])


class EncodeTest(ProgramTest):

    def test_small_histories(self):
        self.assertEqual([1, 0], encode_history(History([])))
        self.assertEqual([1, 2, 255, 0], encode_history(History([255, 0])))
        self.assertEqual([3, 0, 0, 0], encode_history(history_of([], [], [])))
        self.assertEqual([3, 1, 7, 1, 0, 1, 1, 1, 1], encode_history(history_of([7], [7], [])))
        self.assertEqual([2, 2, 4, 5, 2, 1, 2, 2, 2, 6, 7], encode_history(history_of([4, 5], [6, 7])))

    def test_long_numbers(self):
        history = history_of([7] * 128, [7] * 128, [], [9] * 300)
        expected = [4, 128, 1] + [7] * 128 + [1, 0, 128, 1] + [1, 1, 128, 1] + [1, 2, 172, 2] + [9] * 300
        self.assertEqual(expected, encode_history(history))
        many = history_of(*[[]] * 130)
        self.assertEqual([130, 1, 0] + [0] * 129, encode_history(many))

    def test_history_stays_as_it_was(self):
        history = history_of([1, 2], [2, 3])
        before = (history.first, history.scripts)
        self.assertEqual(encode_history(history), encode_history(history))
        self.assertEqual(before, (history.first, history.scripts))


class DecodeTest(ProgramTest):

    def position(self, octets):
        return self.raised(EncodingError, decode_history, octets).position

    def test_example(self):
        self.assertEqual(7, self.position([2, 1, 7, 1, 2, 1, 9]))

    def test_what_is_written_is_read_again(self):
        chance = random.Random(2)
        histories = [random_history(chance) for _ in range(200)]
        histories += [history_of([7] * 1000, [7] * 999 + [8], [200] * 128), history_of(*[[]] * 300)]
        for history in histories:
            octets = encode_history(history)
            again = decode_history(octets)
            self.assertIsInstance(again, History)
            self.assertEqual((history.first, history.scripts), (again.first, again.scripts))
            self.assertEqual(octets, encode_history(again))

    def test_the_list_may_change_afterwards(self):
        octets = [2, 1, 7, 2, 0, 1, 2, 1, 9]
        before = list(octets)
        history = decode_history(octets)
        self.assertEqual(before, octets)
        octets.clear()
        self.assertEqual(before, encode_history(history))
        history.record([1])
        self.assertEqual([[7], [7, 9], [1]], [history.version(number) for number in range(3)])

    def test_scripts_of_any_cost(self):
        octets = [2, 2, 7, 8, 2, 1, 2, 2, 2, 7, 8]
        history = decode_history(octets)
        self.assertEqual(((("drop", 2), ("add", (7, 8))),), history.scripts)
        self.assertEqual([7, 8], history.version(1))
        self.assertEqual(octets, encode_history(history))

    def test_list_ends(self):
        for octets in ([2, 2, 1, 2, 3, 0, 1, 1, 1, 2, 1, 3], encode_history(history_of([7] * 200, [8] * 200)),
                       encode_history(history_of([], [1], [2], []))):
            decode_history(octets)
            for length in range(len(octets)):
                self.assertEqual(length, self.position(octets[:length]))
        self.assertEqual(8, self.position([1, 255, 255, 255, 255, 127, 9, 9]))
        self.assertEqual(9, self.position([2, 0, 1, 2, 255, 255, 255, 255, 127]))
        self.assertEqual(7, self.position([255, 255, 255, 255, 127, 0, 0]))

    def test_numbers_that_cannot_be_read(self):
        self.assertEqual(1, self.position([128, 0]))
        self.assertEqual(4, self.position([128, 128, 128, 128, 128]))
        self.assertEqual(2, self.position([1, 128, 0]))
        self.assertEqual(3, self.position([2, 0, 128, 0]))
        self.assertEqual(6, self.position([2, 1, 7, 1, 0, 128, 0]))
        self.assertEqual(6, self.position([2, 1, 7, 1, 1, 128, 0]))
        self.assertEqual(5, self.position([2, 0, 1, 2, 128, 0]))

    def test_zeros(self):
        self.assertEqual(0, self.position([0]))
        self.assertEqual(0, self.position([0, 0, 0]))
        self.assertEqual(5, self.position([2, 1, 7, 1, 0, 0]))
        self.assertEqual(5, self.position([2, 1, 7, 1, 1, 0]))
        self.assertEqual(4, self.position([2, 0, 1, 2, 0]))

    def test_kinds_of_steps(self):
        for octet in (3, 4, 127, 128, 255):
            self.assertEqual(4, self.position([2, 1, 7, 1, octet, 1]))
            self.assertEqual(7, self.position([2, 2, 7, 7, 2, 0, 1, octet]))

    def test_form_of_scripts(self):
        start = [2, 2, 7, 8]
        self.assertEqual(7, self.position(start + [2, 0, 1, 0, 1]))
        self.assertEqual(7, self.position(start + [2, 1, 1, 1, 1]))
        self.assertEqual(8, self.position(start + [3, 2, 1, 5, 2, 1, 6, 0, 2]))
        self.assertEqual(8, self.position(start + [3, 2, 1, 5, 1, 1, 0, 1]))
        self.assertEqual(7, self.position(start + [2, 0, 1, 0]))
        self.assertEqual(8, self.position(start + [2, 2, 1, 5, 1]))
        self.assertEqual(7, self.position(start + [2, 0, 1, 0, 128, 0]))
        decode_history(start + [3, 1, 1, 2, 1, 5, 0, 1])
        decode_history(start + [4, 2, 1, 5, 0, 1, 1, 1, 2, 1, 6])
        decode_history([3] + start[1:] + [1, 0, 2, 2, 0, 1, 1, 1])

    def test_same_kind_in_two_scripts(self):
        octets = [4, 1, 7, 1, 0, 1, 1, 0, 1, 1, 1, 1]
        self.assertEqual([[7], [7], [7], []], [decode_history(octets).version(number) for number in range(4)])

    def test_too_many_items_are_taken(self):
        for kind in (0, 1):
            self.assertEqual(4, self.position([2, 1, 7, 1, kind, 2]))
            self.assertEqual(4, self.position([2, 1, 7, 1, kind, 200, 1]))
            self.assertEqual(3, self.position([2, 0, 1, kind, 1]))
            self.assertEqual(7, self.position([2, 2, 7, 8, 2, 1 - kind, 1, kind, 2]))
        self.assertEqual(9, self.position([2, 1, 7, 3, 0, 1, 2, 1, 9, 0, 1]))
        self.assertEqual(10, self.position([3, 1, 7, 2, 0, 1, 2, 1, 9, 1, 0, 3]))
        self.assertEqual([7, 9], decode_history([3, 1, 7, 2, 0, 1, 2, 1, 9, 1, 0, 2]).version(2))

    def test_too_few_items_are_taken(self):
        self.assertEqual(4, self.position([2, 1, 7, 0]))
        self.assertEqual(4, self.position([2, 1, 7, 0, 0, 0]))
        self.assertEqual(7, self.position([2, 2, 7, 8, 1, 0, 1]))
        self.assertEqual(7, self.position([2, 2, 7, 8, 1, 1, 1, 5]))
        self.assertEqual(12, self.position([3, 1, 7, 2, 0, 1, 2, 1, 9, 1, 0, 1]))
        self.assertEqual(12, self.position([3, 1, 7, 2, 0, 1, 2, 1, 9, 1, 0, 1, 0]))

    def test_octets_behind_the_last_version(self):
        for octets in ([1, 0], [1, 2, 7, 8], [2, 1, 7, 2, 0, 1, 2, 1, 9]):
            decode_history(octets)
            self.assertEqual(len(octets), self.position(octets + [0]))
            self.assertEqual(len(octets), self.position(octets + [1, 2, 3]))

    def test_what_is_read_is_written_again(self):
        read = 0
        for octets in lists_over([0, 1, 2, 3, 128], 7):
            try:
                history = decode_history(octets)
            except EncodingError as error:
                self.assertLessEqual(error.position, len(octets))
                continue
            self.assertEqual(octets, encode_history(history))
            for script in history.scripts:
                self.assertEqual(list(script), normalized(list(script)))
            read += 1
        self.assertGreater(read, 50)
