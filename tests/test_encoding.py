"""Points 11 and 12."""

import random

from scanpages.encoding import decode_volume, encode_volume
from scanpages.errors import EncodingError, InvalidVolume
from tests.support import ProgramTest, lists_over, nested, text_folder, wide
from tests.test_volumes import random_volume


class EncodeTest(ProgramTest):

    def test_example(self):
        self.assertEqual([3, 1, 1, 97, 1, 2, 104, 105],
                         self.pure(encode_volume, ("folder", (("a", ("text", "hi")),))))

    def test_each_kind(self):
        self.assertEqual([1, 0], encode_volume(("text", "")))
        self.assertEqual([1, 3, 65, 10, 126], encode_volume(("text", "A\n~")))
        self.assertEqual([2, 1, 0, 0], encode_volume(("table", ("",), ())))
        table = ("table", ("k", ""), (("a", "bc"), ("", "d")))
        self.assertEqual([2, 2, 1, 107, 0, 2, 1, 97, 2, 98, 99, 0, 1, 100], self.pure(encode_volume, table))
        self.assertEqual([3, 0], encode_volume(("folder", ())))
        folder = ("folder", (("a", ("folder", ())), ("b-", ("text", "x"))))
        self.assertEqual([3, 2, 1, 97, 3, 0, 2, 98, 45, 1, 1, 120], encode_volume(folder))

    def test_long_lists(self):
        self.assertEqual([1, 127] + [97] * 127, encode_volume(("text", "a" * 127)))
        self.assertEqual([1, 128, 1] + [97] * 128, encode_volume(("text", "a" * 128)))
        self.assertEqual([1, 172, 2] + [97] * 300, encode_volume(("text", "a" * 300)))
        self.assertEqual([2, 1, 0, 128, 1] + [0] * 128, encode_volume(("table", ("",), (("",),) * 128)))
        self.assertEqual([2, 129, 1] + [0] * 129 + [0], encode_volume(("table", ("",) * 129, ())))
        self.assertEqual([3, 199, 1, 4, 48, 48, 48, 48, 1, 0], encode_volume(wide(200))[:10])

    def test_faults(self):
        for volume, path in (
            (("text", "%"), ()),
            (("folder", (("a", ("table", (), ())),)), ("a",)),
            (text_folder("b", "a"), ()),
            (nested(9), ()),
            (wide(201), ()),
            (nested(3, ("text", "\t")), ("a", "a")),
        ):
            self.assertEqual(path, self.raised(InvalidVolume, encode_volume, volume).path)


class DecodeTest(ProgramTest):

    def position(self, octets):
        return self.raised(EncodingError, decode_volume, octets).position

    def test_what_is_written_is_read_again(self):
        chance = random.Random(3)
        volumes = [random_volume(chance, 5) for _ in range(200)]
        volumes += [("text", "a" * 128), ("text", "ab\n" * 10000), nested(8), wide(200), ("folder", ())]
        volumes += [("table", ("",) * 200, (("x",) * 200,) * 3), nested(8, ("folder", ()))]
        for volume in volumes:
            self.assertEqual(volume, self.pure(decode_volume, encode_volume(volume)))

    def test_kinds_of_values(self):
        volume = decode_volume([3, 1, 1, 97, 2, 1, 0, 1, 1, 120])
        self.assertEqual(("folder", (("a", ("table", ("",), (("x",),))),)), volume)
        self.assertIsInstance(volume[1][0][1][2][0], tuple)

    def test_list_ends(self):
        for octets in (
            encode_volume(("folder", (("a", ("text", "hi")), ("b", ("table", ("k", ""), (("v", "w"),)))))),
            encode_volume(("text", "a" * 200)),
            encode_volume(nested(8)),
        ):
            for length in range(len(octets)):
                self.assertEqual(length, self.position(octets[:length]))

    def test_list_ends_far_before_the_volume(self):
        self.assertEqual(7, self.position([1, 255, 255, 255, 255, 127, 97]))
        self.assertEqual(7, self.position([2, 255, 255, 255, 255, 127, 0]))
        self.assertEqual(9, self.position([2, 1, 0, 255, 255, 255, 255, 127, 0]))
        self.assertEqual(10, self.position([3, 255, 255, 255, 255, 127, 1, 97, 1, 0]))
        self.assertEqual(8, self.position([3, 1, 255, 255, 255, 255, 127, 97]))

    def test_numbers_that_cannot_be_read(self):
        self.assertEqual(2, self.position([1, 128, 0]))
        self.assertEqual(5, self.position([1, 128, 128, 128, 128, 128, 0]))
        self.assertEqual(2, self.position([2, 128, 0]))
        self.assertEqual(3, self.position([2, 1, 200, 0]))
        self.assertEqual(4, self.position([2, 1, 0, 128, 0]))
        self.assertEqual(2, self.position([3, 129, 0]))
        self.assertEqual(3, self.position([3, 1, 129, 0]))

    def test_first_octet_of_a_volume(self):
        for octet in (0, 4, 5, 97, 128, 255):
            self.assertEqual(0, self.position([octet]))
            self.assertEqual(0, self.position([octet, 0]))
            self.assertEqual(4, self.position([3, 1, 1, 97, octet, 0]))
            self.assertEqual(8, self.position([3, 2, 1, 97, 1, 0, 1, 98, octet, 0]))

    def test_depth(self):
        inside = [3, 1, 1, 97]
        for kind in ([1, 0], [2, 1, 0, 0], [3, 0]):
            self.assertIsInstance(decode_volume(inside * 7 + kind), tuple)
            self.assertEqual(32, self.position(inside * 8 + kind))
            self.assertEqual(32, self.position(inside * 8 + kind[:1]))
        self.assertEqual(32, self.position(inside * 1000))
        self.assertEqual(32, self.position(inside * 8))

    def test_size(self):
        octets = [3, 200, 1]
        for number in range(200):
            octets += [4] + [ord(character) for character in f"{number:04}"] + [1, 0]
        self.assertEqual(3 + 199 * 7 + 5, self.position(octets))
        self.assertEqual(3 + 199 * 7 + 5, self.position(octets[:-2] + [2]))
        self.assertEqual(wide(200), decode_volume([3, 199, 1] + octets[3:-7]))
        full = [3, 2, 1, 97] + encode_volume(wide(199))
        self.assertEqual(len(full) + 2, self.position(full + [1, 98, 1, 0]))

    def test_names_are_read_before_the_volume_behind_them(self):
        inside = [3, 1, 1, 97]
        self.assertEqual(30, self.position(inside * 7 + [3, 1, 0, 1, 0]))

    def test_table_without_header(self):
        self.assertEqual(1, self.position([2, 0]))
        self.assertEqual(1, self.position([2, 0, 0]))
        self.assertEqual(5, self.position([3, 1, 1, 97, 2, 0, 0]))

    def test_characters(self):
        for octet in range(256):
            allowed = octet == 10 or (32 <= octet <= 126 and octet != 37)
            lists = ([1, 2, 97, octet], [2, 1, 1, octet, 0], [2, 1, 0, 1, 1, octet])
            for octets, place in zip(lists, (3, 3, 5)):
                if allowed:
                    self.assertEqual(octets, encode_volume(decode_volume(octets)))
                else:
                    self.assertEqual(place, self.position(octets))
        self.assertEqual(2, self.position([1, 3, 37, 97]))
        self.assertEqual(3, self.position([1, 100, 97, 9, 97]))

    def test_characters_of_names(self):
        names = [ord(character) for character in "abcdefghijklmnopqrstuvwxyz0123456789-."]
        for octet in range(256):
            allowed = octet == 10 or (32 <= octet <= 126 and octet != 37)
            octets = [3, 1, 2, 97, octet, 1, 0]
            if octet in names:
                self.assertEqual(octets, encode_volume(decode_volume(octets)))
            else:
                self.assertEqual(2 if allowed else 4, self.position(octets))

    def test_a_name_is_judged_behind_its_last_octet(self):
        self.assertEqual(2, self.position([3, 1, 0, 1, 0]))
        self.assertEqual(2, self.position([3, 1, 0]))
        self.assertEqual(4, self.position([3, 1, 2, 65]))
        self.assertEqual(4, self.position([3, 1, 2, 65, 9]))
        self.assertEqual(2, self.position([3, 1, 2, 65, 66]))
        self.assertEqual(2, self.position([3, 1, 21] + [97] * 21))
        self.assertEqual(23, self.position([3, 1, 21] + [97] * 20))
        self.assertEqual(2, self.position([3, 1, 128, 1] + [97] * 128))
        self.assertEqual(7, self.position([3, 1, 128, 1] + [97] * 3 + [9]))
        self.assertEqual(text_folder("a" * 20), decode_volume([3, 1, 20] + [97] * 20 + [1, 0]))

    def test_order_of_names(self):
        self.assertEqual(6, self.position([3, 2, 1, 98, 1, 0, 1, 97, 1, 0]))
        self.assertEqual(6, self.position([3, 2, 1, 97, 1, 0, 1, 97, 1, 0]))
        self.assertEqual(7, self.position([3, 2, 2, 97, 97, 1, 0, 1, 97, 1, 0]))
        self.assertEqual(10, self.position([3, 3, 1, 97, 1, 0, 1, 99, 1, 0, 1, 98]))
        self.assertEqual(text_folder("a", "aa"), decode_volume([3, 2, 1, 97, 1, 0, 2, 97, 97, 1, 0]))

    def test_order_of_names_begins_anew_in_each_folder(self):
        octets = [3, 2, 1, 98, 3, 1, 1, 97, 1, 0, 1, 99, 3, 1, 1, 97, 1, 0]
        self.assertEqual(octets, encode_volume(decode_volume(octets)))

    def test_octets_behind_the_volume(self):
        for volume in (("text", "hi"), ("folder", ()), nested(8), ("table", ("k",), (("v",),))):
            octets = encode_volume(volume)
            self.assertEqual(len(octets), self.position(octets + [0]))
            self.assertEqual(len(octets), self.position(octets + [1, 0]))

    def test_what_is_read_is_written_again(self):
        read = 0
        for octets in lists_over([0, 1, 2, 3, 97, 98, 128], 6):
            try:
                volume = decode_volume(octets)
            except EncodingError as error:
                self.assertLessEqual(error.position, len(octets))
                continue
            self.assertEqual(octets, encode_volume(volume))
            read += 1
        self.assertGreater(read, 30)

    def test_changed_octets(self):
        chance = random.Random(4)
        for _ in range(2000):
            octets = encode_volume(random_volume(chance, 3))
            octets[chance.randrange(len(octets))] = chance.choice((0, 1, 2, 3, 37, 97, 98, 128, 255))
            try:
                volume = decode_volume(octets)
            except EncodingError:
                continue
            self.assertEqual(octets, encode_volume(volume))
