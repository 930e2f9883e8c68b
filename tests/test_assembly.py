"""Points 26, 27 and 28."""

import random

from scanpages.assembly import assemble, disassemble
from scanpages.errors import AssemblySyntaxError, InvalidCode
from scanpages.machine import check_code
from tests.support import ProgramTest

EACH = """set 1 255
copy 2 3
add 4 5
sub 6 7
less 0 1
read 2 L0
write 3
back 4 5
jump L1
zero 6 L11
fail
halt
"""
EACH_CODE = [2, 1, 255, 3, 2, 3, 4, 4, 5, 5, 6, 7, 6, 0, 1, 7, 2, 0, 8, 3, 0, 9, 4, 5, 10, 0, 1, 11, 6, 11,
             1, 0, 0, 0, 0, 0]


def random_code(chance):
    """A code, chosen by chance."""
    count = chance.randrange(1, 30)
    code = []
    for _ in range(count):
        operation = chance.randrange(12)
        a = 0 if operation in (0, 1, 10) else chance.randrange(8)
        b = chance.randrange(8)
        if operation in (7, 10, 11):
            b = chance.randrange(count)
        if operation in (0, 1, 8):
            b = 0
        if operation == 2:
            b = chance.randrange(256)
        code += [operation, a, b]
    return code


class DisassembleTest(ProgramTest):

    def test_example(self):
        self.assertEqual("L0:\nread 0 L2\njump L0\nL2:\nhalt\n",
                         self.pure(disassemble, [7, 0, 2, 10, 0, 0, 0, 0, 0]))

    def test_each_operation(self):
        lines = EACH.split("\n")
        expected = ["L0:", lines[0], "L1:", *lines[1:11], "L11:", *lines[11:]]
        self.assertEqual("\n".join(expected), disassemble(EACH_CODE))

    def test_small_codes(self):
        self.assertEqual("halt\n", disassemble([0, 0, 0]))
        self.assertEqual("L0:\njump L0\n", disassemble([10, 0, 0]))
        self.assertEqual("set 0 0\n", disassemble([2, 0, 0]))
        self.assertEqual("zero 0 L2\njump L2\nL2:\nhalt\n", disassemble([11, 0, 2, 10, 0, 2, 0, 0, 0]))

    def test_no_code(self):
        for code in ([], [0], [0, 0, 1], [12, 0, 0], [10, 0, 1], [2, 8, 0], [0, 0, 0] * 256):
            self.raised(InvalidCode, disassemble, code)

    def test_what_is_disassembled_is_assembled_again(self):
        chance = random.Random(1)
        codes = [random_code(chance) for _ in range(300)]
        codes += [EACH_CODE, [0, 0, 0] * 255, [10, 0, 254] * 255, [2, 7, 255] * 255]
        codes.append([octet for at in range(255) for octet in (7, 0, at)])
        for code in codes:
            self.assertEqual(len(code) // 3, check_code(code))
            self.assertEqual(code, self.pure(assemble, self.pure(disassemble, code)))


class AssembleTest(ProgramTest):

    def test_example(self):
        text = "again: \n  read 0 end\nwrite 0\njump again\nend:\nhalt\n"
        self.assertEqual([7, 0, 3, 8, 0, 0, 10, 0, 0, 0, 0, 0], self.pure(assemble, text))

    def test_each_operation(self):
        text = "L0:\n" + EACH.replace("copy", "L1:\ncopy").replace("halt", "L11:\nhalt")
        self.assertEqual(EACH_CODE, assemble(text))

    def test_spaces_and_empty_lines(self):
        for text in ("halt", "halt\n", "\nhalt", "  halt  ", "\n\n  \nhalt\n   \n\n", " halt \n "):
            self.assertEqual([0, 0, 0], assemble(text))
        self.assertEqual([2, 7, 9], assemble("   set    7  9   "))
        self.assertEqual([10, 0, 0], assemble("  a:   \n\n  jump   a  "))

    def test_labels(self):
        for label in ("a", "Z", "a1", "X9y", "halt", "set", "L0", "a" * 1000, "e0"):
            self.assertEqual([10, 0, 1, 0, 0, 0], assemble(f"jump {label}\n{label}:\nhalt"))
        self.assertEqual([10, 0, 1, 10, 0, 1], assemble("jump a\na:\nb:\n\nc:\njump b"))
        self.assertEqual([0, 0, 0], assemble("unused:\nhalt"))
        self.assertEqual([10, 0, 1, 10, 0, 0], assemble("a:\njump A\nA:\njump a"))
        self.assertEqual([10, 0, 0], assemble("jump:\njump jump"))

    def test_operands(self):
        for register in range(8):
            self.assertEqual([8, register, 0], assemble(f"write {register}"))
        for octet in range(256):
            self.assertEqual([2, 0, octet], assemble(f"set 0 {octet}"))

    def line(self, text):
        return self.raised(AssemblySyntaxError, assemble, text).line

    def test_example_of_an_error(self):
        self.assertEqual(0, self.line("set 8 1\nhalt\n"))

    def test_neither_label_nor_instruction(self):
        for wrong in ("a", "a :", "a: :", ":", "1:", "1a:", "a_b:", "a-:", "a::", "a: halt", "halt a:", "a:b:", "a: b:",
                      "Halt", "HALT", "halt.", "jmp a", "nop", "halt\t", "\thalt", "%", "#", "# halt", "halt;", "a:\r",
                      "\u00e9:", "a\u0663:", "a\t:", "halt\x0b", "\u00a0halt", "register 0", "0 0 0", "-", "L0"):
            with self.subTest(wrong=wrong):
                self.assertEqual(0, self.line(wrong))
                self.assertEqual(1, self.line(f"halt\n{wrong}\nhalt"))
                self.assertEqual(2, self.line(f"halt\nhalt\n{wrong}"))

    def test_number_of_operands(self):
        for wrong in ("halt 0", "fail 0", "set", "set 0", "set 0 1 2", "copy 0", "copy 0 1 2", "add 1", "sub 1",
                      "less 1", "read 0", "read a", "read 0 a a", "write", "write 0 0", "back 0", "jump", "jump 0 a",
                      "zero 0", "zero a", "zero 0 a a"):
            with self.subTest(wrong=wrong):
                self.assertEqual(3, self.line(f"a:\nhalt\n\n{wrong}\nhalt"))

    def test_numbers(self):
        for wrong in ("8", "9", "10", "255", "256", "00", "01", "07", "-1", "+1", "1.0", "0x1", "a", "1_0", "1e0",
                      "\u0663", "\u00b2", "9" * 5000, "0" * 5000, "1:", "\t1", "7,"):
            for text in ("write {}", "set {} 0", "copy {} 0", "copy 0 {}", "add {} 0", "add 0 {}", "sub {} 0",
                         "sub 0 {}", "less {} 0", "less 0 {}", "read {} a", "back {} 0", "back 0 {}", "zero {} a"):
                self.assertEqual(2, self.line("a:\nhalt\n" + text.format(wrong)))
        for wrong in ("256", "257", "300", "999", "1000", "00", "01", "007", "0255", "-0", "a", "\u0661", "9" * 5000):
            self.assertEqual(2, self.line(f"a:\nhalt\nset 0 {wrong}"))

    def test_label_that_stands_twice(self):
        self.assertEqual(1, self.line("a:\na:\nhalt"))
        self.assertEqual(3, self.line("a:\nhalt\nb:\na:\nhalt"))
        self.assertEqual(2, self.line("a:\nhalt\na:"))

    def test_too_many_instructions(self):
        self.assertEqual([0, 0, 0] * 255, assemble("halt\n" * 255))
        self.assertEqual(255, self.line("halt\n" * 256))
        self.assertEqual(255, self.line("halt\n" * 300))
        self.assertEqual(257, self.line("a:\n" + "halt\n" * 255 + "\n" + "halt"))
        self.assertEqual([10, 0, 254] + [0, 0, 0] * 254, assemble("jump a\n" + "halt\n" * 253 + "a:\nhalt\n"))
        self.assertEqual(255, self.line("halt\n" * 255 + "a:\n"))
        self.assertEqual(255, self.line("jump nowhere\n" + "halt\n" * 255))

    def test_first_wrong_line_is_named(self):
        self.assertEqual(1, self.line("halt\nset 9 9\nnonsense\n"))
        self.assertEqual(1, self.line("halt\nnonsense\nset 9 9\n"))
        self.assertEqual(0, self.line("nonsense\na:\na:\n"))
        self.assertEqual(2, self.line("a:\na1:\na:\nwrite 9"))

    def test_unknown_targets(self):
        for target in ("b", "A", "0", "L0", "a:", "%", "1", "-", "\t"):
            for text in ("jump {}", "read 0 {}", "zero 0 {}"):
                self.assertEqual(2, self.line("a:\nhalt\n" + text.format(target)))
        self.assertEqual(0, self.line("jump a\njump b\n"))
        self.assertEqual(2, self.line("a:\njump a\njump b\njump c"))

    def test_labels_before_no_instruction(self):
        self.assertEqual(1, self.line("halt\na:"))
        self.assertEqual(1, self.line("halt\na:\nb:\n\n"))
        self.assertEqual(0, self.line("a:"))
        self.assertEqual(1, self.line("\na:\nb:"))
        self.assertEqual(1, self.line("jump a\na:\n"))

    def test_lines_that_are_wrong_by_themselves_come_first(self):
        self.assertEqual(2, self.line("jump nowhere\na:\nnonsense"))
        self.assertEqual(3, self.line("jump nowhere\nhalt\na:\na:"))
        self.assertEqual(1, self.line("jump nowhere\nset 0 256\na:"))

    def test_first_line_of_either_kind_decides(self):
        self.assertEqual(0, self.line("jump nowhere\na:"))
        self.assertEqual(2, self.line("a:\njump a\nzero 0 nowhere\nb:"))
        self.assertEqual(2, self.line("a:\njump b\nb:\nc:\n"))

    def test_no_word_at_all(self):
        self.assertEqual(0, self.line(""))
        self.assertEqual(0, self.line("   "))
        self.assertEqual(1, self.line("\n"))
        self.assertEqual(3, self.line("\n \n\n  "))
