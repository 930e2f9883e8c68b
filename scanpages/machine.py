"""The machine that undoes the compression."""

from scanpages.errors import InvalidCode

HALT = 0
FAIL = 1
SET = 2
COPY = 3
ADD = 4
SUB = 5
LESS = 6
READ = 7
WRITE = 8
BACK = 9
JUMP = 10
ZERO = 11

# The name of each operation, in the order of the numbers, and what its operands a and b are.
OPERATIONS = (
    ("halt", "", ""),
    ("fail", "", ""),
    ("set", "register", "octet"),
    ("copy", "register", "register"),
    ("add", "register", "register"),
    ("sub", "register", "register"),
    ("less", "register", "register"),
    ("read", "register", "target"),
    ("write", "register", ""),
    ("back", "register", "register"),
    ("jump", "", "target"),
    ("zero", "register", "target"),
)

REGISTERS = 8
OCTETS = 256
MOST_INSTRUCTIONS = 255
INSTRUCTION_SIZE = 3


class Result:
    """The result of a run: a word, the output and the number of steps."""

    def __init__(self, word, output, steps):
        self.word = word
        self.output = tuple(output)
        self.steps = steps


def instructions(octets):
    """Returns the list of the instructions of a code: triples of the number of the operation, a and b."""
    starts = range(0, len(octets), INSTRUCTION_SIZE)
    return [tuple(octets[start:start + INSTRUCTION_SIZE]) for start in starts]


def check_code(octets):
    """Returns the number of the instructions of a code."""
    count = len(octets) // INSTRUCTION_SIZE
    if len(octets) % INSTRUCTION_SIZE != 0 or not 1 <= count <= MOST_INSTRUCTIONS:
        raise InvalidCode(f"{len(octets)} octets are no code")
    for number, instruction in enumerate(instructions(octets)):
        if not _is_instruction(instruction, count):
            raise InvalidCode(f"instruction {number} is wrong")
    return count


def _is_instruction(instruction, count):
    """Tells whether a triple is an instruction of a code with so many instructions."""
    operation, a, b = instruction
    if not 0 <= operation < len(OPERATIONS):
        return False
    kinds = OPERATIONS[operation][1:]
    return all(0 <= operand < _operand_end(kind, count) for kind, operand in zip(kinds, (a, b)))


def _operand_end(kind, count):
    """Returns the least integer that is too great for an operand."""
    if kind == "register":
        return REGISTERS
    if kind == "octet":
        return OCTETS
    if kind == "target":
        return count
    return 1


def run(code, octets, bound):
    """Runs a code with an input and a step bound, and returns the result."""
    count = check_code(code)
    todo = instructions(code)
    registers = [0] * REGISTERS
    output = []
    taken = 0
    at = 0
    for step in range(1, bound + 1):
        operation, a, b = todo[at]
        at += 1
        if operation == HALT:
            return Result("done", output, step)
        elif operation == FAIL:
            return Result("failed", output, step)
        elif operation == READ:
            if taken < len(octets):
                registers[a] = octets[taken]
                taken += 1
            else:
                at = b
        elif operation == WRITE:
            output.append(registers[a] % OCTETS)
        elif operation == BACK:
            if not 1 <= registers[b] <= len(output):
                return Result("failed", output, step)
            registers[a] = output[len(output) - registers[b]]
        elif operation == JUMP:
            at = b
        elif operation == ZERO:
            if registers[a] == 0:
                at = b
        else:
            registers[a] = _computed(operation, registers, a, b)
        if at == count:
            return Result("failed", output, step)
    return Result("cut", output, bound)


def _computed(operation, registers, a, b):
    """Returns what register a holds after an operation that only computes."""
    if operation == SET:
        return b
    if operation == COPY:
        return registers[b]
    if operation == ADD:
        return registers[a] + registers[b]
    if operation == SUB:
        return max(0, registers[a] - registers[b])
    return 1 if registers[a] < registers[b] else 0
