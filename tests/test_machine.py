"""Points 23, 24, 25 and 26."""

from scanpages.errors import InvalidCode
from scanpages.machine import Result, check_code, run
from tests.support import ProgramTest

HALT = [0, 0, 0]
FAIL = [1, 0, 0]
MANY = 100000


def show(number):
    """A code that writes what a register holds."""
    return [8, number, 0]


class RunTest(ProgramTest):

    def check(self, code, octets, word, output, steps, bound=MANY):
        """Checks the result of a run."""
        before = (list(code), list(octets))
        result = run(code, octets, bound)
        self.assertEqual(before, (code, octets))
        self.assertIsInstance(result, Result)
        self.assertIsInstance(result.output, tuple)
        self.assertEqual((word, tuple(output), steps), (result.word, result.output, result.steps))

    def test_example(self):
        self.check([7, 0, 3, 8, 0, 0, 10, 0, 0, 0, 0, 0], [5, 6], "done", (5, 6), 8, 100)

    def test_halt_and_fail(self):
        self.check(HALT, [], "done", (), 1)
        self.check(FAIL, [], "failed", (), 1)
        self.check([2, 0, 9] + show(0) + HALT + show(0), [], "done", (9,), 3)
        self.check([2, 0, 9] + show(0) + FAIL + show(0), [], "failed", (9,), 3)

    def test_registers_hold_0_at_the_beginning(self):
        code = [octet for number in range(8) for octet in show(number)]
        self.check(code + HALT, [5], "done", [0] * 8, 9)

    def test_each_register(self):
        code = []
        for number in range(8):
            code += [2, number, 10 + number]
        for number in range(8):
            code += show(number)
        self.check(code + HALT, [], "done", range(10, 18), 17)

    def test_set(self):
        for octet in (0, 1, 255):
            self.check([2, 3, 7, 2, 3, octet] + show(3) + HALT, [], "done", [octet], 4)

    def test_copy(self):
        self.check([2, 1, 7, 2, 2, 8, 3, 1, 2] + show(1) + show(2) + HALT, [], "done", [8, 8], 6)
        self.check([2, 1, 7, 3, 1, 1] + show(1) + HALT, [], "done", [7], 4)

    def test_add(self):
        self.check([2, 1, 7, 2, 2, 8, 4, 1, 2] + show(1) + show(2) + HALT, [], "done", [15, 8], 6)
        self.check([2, 1, 7, 4, 1, 1] + show(1) + HALT, [], "done", [14], 4)

    def test_registers_hold_more_than_octets(self):
        code = [2, 1, 255, 4, 1, 1, 2, 2, 254, 5, 1, 2] + show(1) + HALT
        self.check(code, [], "done", [0], 6)
        code = [2, 1, 255, 4, 1, 1, 2, 2, 253, 5, 1, 2] + show(1) + HALT
        self.check(code, [], "done", [1], 6)
        code = [2, 1, 255, 4, 1, 1, 2, 2, 255, 6, 2, 1] + show(2) + HALT
        self.check(code, [], "done", [1], 6)

    def test_sub(self):
        for first, second, expected in ((9, 4, 5), (9, 9, 0), (4, 9, 0), (0, 255, 0), (255, 0, 255)):
            code = [2, 1, first, 2, 2, second, 5, 1, 2] + show(1) + show(2) + HALT
            self.check(code, [], "done", [expected, second], 6)
        self.check([2, 1, 7, 5, 1, 1] + show(1) + HALT, [], "done", [0], 4)

    def test_less(self):
        for first, second, expected in ((4, 9, 1), (9, 9, 0), (9, 4, 0), (0, 1, 1), (0, 0, 0)):
            code = [2, 1, first, 2, 2, second, 6, 1, 2] + show(1) + show(2) + HALT
            self.check(code, [], "done", [expected, second], 6)
        self.check([2, 1, 7, 6, 1, 1] + show(1) + HALT, [], "done", [0], 4)

    def test_read(self):
        code = [7, 1, 3, 7, 2, 3] + HALT + show(1) + show(2) + HALT
        self.check(code, [5, 6], "done", [], 3)
        self.check(code, [5, 6, 7], "done", [], 3)
        self.check(code, [5], "done", [5, 0], 5)
        self.check(code, [], "done", [0, 0], 4)

    def test_read_keeps_the_register_when_the_input_has_ended(self):
        self.check([2, 1, 9, 7, 1, 2] + show(1) + HALT, [], "done", [9], 4)
        self.check([2, 1, 9, 7, 1, 2] + show(1) + HALT, [0], "done", [0], 4)

    def test_write(self):
        self.check([2, 1, 255] + show(1) + [2, 2, 2, 4, 1, 2] + show(1) + show(1) + HALT, [], "done", [255, 1, 1], 7)

    def test_back(self):
        write = [2, 1, 5] + show(1) + [2, 1, 6] + show(1)
        for distance, expected in ((1, 6), (2, 5)):
            self.check(write + [2, 2, distance, 9, 3, 2] + show(3) + HALT, [], "done", [5, 6, expected], 8)
        for distance in (0, 3, 255):
            self.check(write + [2, 2, distance, 9, 3, 2] + show(3) + HALT, [], "failed", [5, 6], 6)
        self.check(write + [2, 2, 2, 9, 2, 2] + show(2) + HALT, [], "done", [5, 6, 5], 8)
        self.check([2, 2, 1, 9, 3, 2] + HALT, [], "failed", [], 2)

    def test_jump(self):
        self.check([10, 0, 2] + FAIL + HALT, [], "done", [], 2)
        self.check([10, 0, 0], [], "cut", [], 50, 50)
        self.check(show(0) + [10, 0, 0], [], "cut", [0, 0, 0], 5, 5)

    def test_zero(self):
        for octet, word in ((0, "done"), (1, "failed"), (255, "failed")):
            self.check([2, 4, octet, 11, 4, 3] + FAIL + HALT, [], word, [], 3)

    def test_behind_the_last_instruction(self):
        self.check([2, 1, 1], [], "failed", [], 1)
        self.check(show(0), [], "failed", [0], 1)
        self.check([2, 1, 1, 11, 1, 0], [], "failed", [], 2)
        self.check([7, 0, 0], [1, 2], "failed", [], 1)
        self.check([2, 1, 1, 5, 1, 1], [], "failed", [], 2, 2)
        self.check([2, 1, 1, 5, 1, 1], [], "cut", [], 1, 1)

    def test_step_bound(self):
        code = [7, 0, 3, 8, 0, 0, 10, 0, 0, 0, 0, 0]
        self.check(code, [5, 6], "cut", [], 0, 0)
        self.check(HALT, [], "cut", [], 0, 0)
        self.check(HALT, [], "done", [], 1, 1)
        self.check(FAIL, [], "failed", [], 1, 1)
        self.check(code, [5, 6], "cut", [5, 6], 7, 7)
        self.check(code, [5, 6], "done", [5, 6], 8, 8)
        self.check(code, [5, 6], "cut", [5], 2, 2)
        self.check([9, 0, 0] + HALT, [], "failed", [], 1, 1)

    def test_equal_results(self):
        code = [7, 0, 3, 8, 0, 0, 10, 0, 0, 0, 0, 0]
        first, second = run(code, [1, 2], 99), run(code, [1, 2], 99)
        self.assertEqual((first.word, first.output, first.steps), (second.word, second.output, second.steps))

    def test_result_copies_the_output(self):
        output = [1, 2]
        result = Result("done", output, 3)
        output.append(3)
        self.assertEqual(("done", (1, 2), 3), (result.word, result.output, result.steps))

    def test_no_code(self):
        for code in ([], [0, 0], [12, 0, 0], [10, 0, 1], [0, 0, 1]):
            for bound in (0, 9):
                self.raised(InvalidCode, run, code, [], bound)


class CheckTest(ProgramTest):

    def fine(self, code):
        self.assertEqual(len(code) // 3, self.pure(check_code, code))

    def wrong(self, code):
        self.raised(InvalidCode, check_code, code)

    def test_number_of_instructions(self):
        self.wrong([])
        for count in (1, 2, 254, 255):
            self.fine(HALT * count)
        for count in (256, 257, 300, 512):
            self.wrong(HALT * count)

    def test_number_of_octets(self):
        for count in (1, 2, 4, 5, 7):
            self.wrong([0] * count)
        self.wrong(HALT * 255 + [0])

    def test_operations(self):
        for operation in range(12):
            self.fine([operation, 0, 0])
        for operation in (12, 13, 128, 255):
            self.wrong([operation, 0, 0])

    def test_operands_that_an_operation_does_not_have(self):
        for operation in (0, 1):
            self.wrong([operation, 1, 0])
            self.wrong([operation, 0, 1])
        self.wrong([8, 0, 1])
        self.wrong([10, 1, 0])
        self.wrong([10, 255, 0])
        for wrong in ([0, 1, 0], [0, 0, 1], [1, 1, 0], [1, 0, 1], [8, 0, 1], [10, 1, 0]):
            self.wrong(wrong + HALT * 9)
            self.wrong(HALT * 9 + wrong)

    def test_registers(self):
        for operation in (2, 3, 4, 5, 6, 7, 8, 9, 11):
            self.fine([operation, 7, 0])
            self.wrong([operation, 8, 0])
            self.wrong([operation, 255, 0])
        for operation in (3, 4, 5, 6, 9):
            self.fine([operation, 0, 7])
            self.wrong([operation, 0, 8])
        self.fine([2, 0, 255])

    def test_targets(self):
        for operation in (7, 10, 11):
            self.fine([operation, 0, 0])
            self.wrong([operation, 0, 1])
            self.fine([operation, 0, 1] + HALT)
            self.wrong([operation, 0, 2] + HALT)
            self.fine([operation, 0, 254] + HALT * 254)
            self.wrong([operation, 0, 255] + HALT * 254)

    def test_any_instruction_may_be_wrong(self):
        for place in range(3):
            code = HALT * 3
            code[3 * place] = 12
            self.wrong(code)
