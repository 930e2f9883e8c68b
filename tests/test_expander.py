"""Point 29."""

import random

from scanpages.assembly import assemble, disassemble
from scanpages.compression import pack
from scanpages.errors import InvalidCode
from scanpages.expander import expand_by_machine, expander_code
from scanpages.machine import check_code, run
from tests.support import ProgramTest, lists_over
from tests.test_compression import slow_expansion


class ExpanderTest(ProgramTest):

    def check(self, packed):
        """Runs the expander with exactly the steps that have to be sufficient."""
        code = expander_code()
        expansion, position = slow_expansion(packed)
        bound = 12 * (len(packed) + len(expansion)) + 12
        result = run(code, packed, bound)
        if position is None:
            self.assertEqual(("done", tuple(expansion)), (result.word, result.output))
            self.assertEqual(expansion, self.pure(expand_by_machine, code, packed, len(expansion)))
            self.assertEqual(expansion, expand_by_machine(code, packed, len(expansion) + 1))
            if expansion:
                self.assertIsNone(expand_by_machine(code, packed, len(expansion) - 1))
                self.assertIsNone(expand_by_machine(code, packed, 0))
        else:
            self.assertEqual("failed", result.word)
            self.assertIsNone(expand_by_machine(code, packed, len(expansion) + 200))
            self.assertIsNone(expand_by_machine(code, packed, len(expansion)))

    def test_size(self):
        code = self.pure(expander_code)
        self.assertLessEqual(check_code(code), 60)
        self.assertEqual(code, assemble(disassemble(code)))

    def test_small_lists(self):
        for packed in lists_over([0, 1, 2, 127, 128, 255], 4):
            self.check(packed)

    def test_each_first_octet(self):
        for octet in range(128):
            octets = list(range(octet + 1))
            self.check([octet, *octets])
            self.check([octet, *octets[:-1]])
            self.check([octet])
        for octet in range(128, 256):
            self.check([1, 7, 8, octet, 1])
            self.check([1, 7, 8, octet, 2])
            self.check([1, 7, 8, octet, 3])
            self.check([1, 7, 8, octet, 0])
            self.check([1, 7, 8, octet])

    def test_far_copies(self):
        plain = [127, *range(128), 126, *range(100, 227)]
        for distance in (1, 2, 127, 128, 254, 255):
            for octet in (128, 200, 255):
                self.check([*plain, octet, distance])
                self.check([*plain, octet, distance, 0, 9])
        self.check([*plain[:-128], 125, *range(126), 128, 255])

    def test_failure_behind_much_output(self):
        self.check([0, 7] + [255, 1] * 20 + [128])
        self.check([0, 7] + [255, 1] * 20 + [128, 0])
        self.check([0, 7] + [255, 1] * 20 + [5, 1])

    def test_packed_lists(self):
        chance = random.Random(1)
        for kinds in (1, 2, 3, 256):
            for count in (0, 1, 3, 4, 127, 128, 129, 131, 256, 600, 4000):
                octets = [chance.randrange(kinds) for _ in range(count)]
                packed = pack(octets)
                self.assertEqual(octets, expand_by_machine(expander_code(), packed, count))
                self.check(packed)

    def test_lists_by_chance(self):
        chance = random.Random(2)
        for _ in range(500):
            self.check([chance.choice((0, 1, 2, 3, 5, 128, 130, 140)) for _ in range(chance.randrange(30))])


class ExpandByMachineTest(ProgramTest):

    def test_other_codes(self):
        copies = assemble("next:\nread 0 end\nwrite 0\njump next\nend:\nhalt")
        self.assertEqual([5, 6], self.pure(expand_by_machine, copies, [5, 6], 2))
        self.assertIsNone(expand_by_machine(copies, [5, 6], 1))
        self.assertEqual([], expand_by_machine(copies, [], 0))
        self.assertIsNone(expand_by_machine(assemble("write 0\nfail"), [], 5))

    def test_number_of_steps(self):
        for octets, limit in (([], 0), ([], 1), ([9], 0), ([9, 9], 3)):
            steps = 12 * (len(octets) + limit) + 12
            fine = assemble("set 0 0\n" * (steps - 1) + "halt")
            self.assertEqual([], expand_by_machine(fine, octets, limit))
            slow = assemble("set 0 0\n" * steps + "halt")
            self.assertIsNone(expand_by_machine(slow, octets, limit))

    def test_no_code(self):
        for code in ([], [0, 0], [12, 0, 0], [0, 0, 0] * 256):
            self.raised(InvalidCode, expand_by_machine, code, [], 10)
