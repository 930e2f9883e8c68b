"""Points 20, 21 and 22."""

import random

from scanpages.compression import expand, pack
from scanpages.errors import PackedError, TooLong
from tests.support import ProgramTest, lists_over

MANY = 10 ** 9


def slow_expansion(packed):
    """What a packed list stands for so far, and the index that shows that it is none, or None."""
    expansion = []
    at = 0
    while at < len(packed):
        octet = packed[at]
        if octet < 128:
            for place in range(at + 1, at + octet + 2):
                if place == len(packed):
                    return expansion, place
                expansion.append(packed[place])
            at += octet + 2
        else:
            if at + 1 == len(packed):
                return expansion, at + 1
            if packed[at + 1] == 0 or packed[at + 1] > len(expansion):
                return expansion, at + 1
            for _ in range(octet - 125):
                expansion.append(expansion[-packed[at + 1]])
            at += 2
    return expansion, None


class PackTest(ProgramTest):

    def check(self, octets):
        packed = self.pure(pack, octets)
        count = len(octets)
        self.assertEqual((octets, None), slow_expansion(packed))
        self.assertEqual(octets, expand(packed, count))
        self.assertLessEqual(len(packed), count + count // 128 + 1 if count else 0)
        if count >= 4 and octets == octets[:1] * count:
            self.assertLessEqual(len(packed), 5 + 2 * (count // 130))
        self.assertTrue(all(0 <= octet <= 255 for octet in packed))
        return packed

    def test_empty(self):
        self.assertEqual([], self.check([]))

    def test_all_small_lists(self):
        for octets in lists_over([0, 255], 10):
            self.check(octets)
        for octets in lists_over([0, 1, 128], 6):
            self.check(octets)

    def test_equal_octets(self):
        for octet in (0, 7, 127, 128, 255):
            for count in range(1, 600):
                self.check([octet] * count)
        for count in (1300, 1301, 1302, 1303, 4000, 100000):
            self.check([9] * count)

    def test_octets_that_do_not_repeat(self):
        chance = random.Random(1)
        for count in (1, 2, 126, 127, 128, 129, 130, 131, 132, 254, 255, 256, 257, 258, 383, 384, 385, 512, 513):
            octets = [at % 256 for at in range(count)]
            self.check(octets)
            self.check([at * at // 3 % 251 for at in range(count)])
            self.check([chance.randrange(256) for _ in range(count)])

    def test_bound_is_met_at_its_edges(self):
        for count, most in ((127, 128), (128, 130), (129, 131), (130, 132), (131, 133), (255, 257), (256, 259)):
            self.assertLessEqual(len(self.check([at % 256 for at in range(count)])), most)

    def test_repeated_pieces(self):
        chance = random.Random(2)
        for length in (3, 4, 129, 130, 131, 254, 255, 256, 260):
            piece = [chance.randrange(256) for _ in range(length)]
            self.check(piece * 3)
            self.check(piece + [1, 2] + piece + [3] + piece)
            self.check([5] + piece[::-1] + piece)

    def test_short_copies_between_other_octets(self):
        chance = random.Random(3)
        for _ in range(20):
            octets = [1, 2, 3]
            for _ in range(200):
                octets += [1, 2, 3] + [chance.randrange(256) for _ in range(chance.randrange(3))]
            self.check(octets)

    def test_by_chance(self):
        chance = random.Random(4)
        for kinds in (2, 3, 5, 20, 256):
            for _ in range(40):
                self.check([chance.randrange(kinds) for _ in range(chance.randrange(700))])
        self.check([chance.randrange(4) for _ in range(4000)])

    def test_copies_reach_far(self):
        piece = list(range(100, 200)) + list(range(100)) + list(range(200, 255))
        self.assertEqual(255, len(piece))
        self.assertLessEqual(len(pack(piece + piece)), 255 + 2 + 2 * 2)


class ExpandTest(ProgramTest):

    def test_examples(self):
        self.assertEqual([7, 8, 7, 8, 7, 8, 7, 9], self.pure(expand, [1, 7, 8, 130, 2, 0, 9], 100))
        self.assertEqual(3, self.raised(PackedError, expand, [0, 7, 128, 2], 100).position)

    def test_plain_octets(self):
        self.assertEqual([], self.pure(expand, [], 0))
        self.assertEqual([255], expand([0, 255], 1))
        octets = list(range(128))
        self.assertEqual(octets, expand([127, *octets], 128))
        self.assertEqual([1, 2, 3], expand([0, 1, 1, 2, 3], 3))

    def test_copies(self):
        self.assertEqual([7] * 4, expand([0, 7, 128, 1], 4))
        self.assertEqual([7] * 131, expand([0, 7, 255, 1], 131))
        self.assertEqual([1, 2, 3, 1, 2, 3], expand([2, 1, 2, 3, 128, 3], 6))
        self.assertEqual([1, 2, 3, 2, 3, 2], expand([2, 1, 2, 3, 128, 2], 6))
        self.assertEqual([1, 2] + [1, 2] * 65, expand([1, 1, 2, 255, 2], 200))
        octets = list(range(255))
        plain = [127, *octets[:128], 126, *octets[128:]]
        self.assertEqual(octets + octets[:3], expand([*plain, 128, 255], MANY))
        self.assertEqual(octets + octets[:130], expand([*plain, 255, 255], MANY))
        self.assertEqual(octets + octets[1:131], expand([*plain, 255, 254], MANY))
        self.assertEqual(octets + [254] * 130, expand([*plain, 255, 1], MANY))
        for octet in range(128, 256):
            self.assertEqual([9] * (1 + octet - 125), expand([0, 9, octet, 1], MANY))

    def position(self, packed, limit=MANY):
        return self.raised(PackedError, expand, packed, limit).position

    def test_wrong_distances(self):
        self.assertEqual(1, self.position([128, 1]))
        self.assertEqual(1, self.position([255, 0]))
        self.assertEqual(3, self.position([0, 7, 128, 0]))
        self.assertEqual(3, self.position([0, 7, 200, 2]))
        self.assertEqual(3, self.position([0, 7, 128, 255, 0, 7]))
        self.assertEqual(5, self.position([0, 7, 128, 1, 128, 5]))
        self.assertEqual([7] * 7, expand([0, 7, 128, 1, 128, 4], MANY))
        octets = [126, *range(127), 126, *range(127)]
        self.assertEqual(257, self.position([*octets, 128, 255]))
        self.assertEqual(257, len(expand([*octets, 128, 254], MANY)))

    def test_list_ends_within_a_step(self):
        self.assertEqual(1, self.position([0]))
        self.assertEqual(1, self.position([127]))
        self.assertEqual(1, self.position([128]))
        self.assertEqual(1, self.position([255]))
        self.assertEqual(2, self.position([1, 7]))
        self.assertEqual(128, self.position([127] + [7] * 127))
        self.assertEqual(3, self.position([0, 7, 200]))
        self.assertEqual(4, self.position([0, 7, 2, 7]))

    def test_limits(self):
        for packed, length in (([0, 7], 1), ([1, 7, 8], 2), ([0, 7, 128, 1], 4), ([0, 7, 255, 1, 0, 7], 132)):
            self.assertEqual(length, len(expand(packed, length)))
            self.assertEqual(length, len(expand(packed, length + 1)))
            self.raised(TooLong, expand, packed, length - 1)
            self.raised(TooLong, expand, packed, 0)
        self.assertEqual([], expand([], 0))
        self.assertEqual([7], expand([0, 7], 10 ** 5000))

    def test_errors_of_a_step_come_first(self):
        self.assertEqual(2, self.position([1, 7], 0))
        self.assertEqual(3, self.position([0, 7, 128, 2], 1))
        self.assertEqual(3, self.position([0, 7, 128], 1))
        self.assertEqual(3, self.position([0, 7, 128, 0], 3))

    def test_limit_comes_before_later_steps(self):
        self.raised(TooLong, expand, [0, 7, 128, 2], 0)
        self.raised(TooLong, expand, [0, 7, 128], 0)
        self.raised(TooLong, expand, [0, 7, 128, 1, 128, 0], 3)
        self.raised(TooLong, expand, [0, 7, 128, 1, 9], 3)
        self.assertEqual(5, self.position([0, 7, 128, 1, 128, 0], 4))

    def test_all_small_lists(self):
        for packed in lists_over([0, 1, 2, 127, 128, 129, 255], 5):
            expansion, position = slow_expansion(packed)
            if position is None:
                self.assertEqual(expansion, expand(packed, len(expansion)))
            else:
                self.assertEqual(position, self.position(packed))
