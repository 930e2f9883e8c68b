"""Codes as texts."""

from scanpages.errors import AssemblySyntaxError
from scanpages.machine import MOST_INSTRUCTIONS, OCTETS, OPERATIONS, REGISTERS, check_code, instructions

DIGITS = "0123456789"
LETTERS = "abcdefghijklmnopqrstuvwxyzABCDEFGHIJKLMNOPQRSTUVWXYZ"
# A word with more digits is too great for any operand.
MOST_DIGITS = 3


def disassemble(code):
    """Returns the text of a code."""
    check_code(code)
    todo = instructions(code)
    targets = {}
    for instruction in todo:
        for kind, operand in zip(_kinds(instruction[0]), instruction[1:]):
            if kind == "target":
                targets[operand] = True
    lines = []
    for number, instruction in enumerate(todo):
        if number in targets:
            lines.append(f"L{number}:\n")
        lines.append(_instruction_line(instruction))
    return "".join(lines)


def _kinds(number):
    """Returns what the operands a and b of an operation are; an operand that it does not have is an empty string."""
    return OPERATIONS[number][1:]


def _instruction_line(instruction):
    """Returns the line of an instruction."""
    words = [OPERATIONS[instruction[0]][0]]
    for kind, operand in zip(_kinds(instruction[0]), instruction[1:]):
        if kind == "target":
            words.append(f"L{operand}")
        elif kind != "":
            words.append(str(operand))
    return " ".join(words) + "\n"


def assemble(text):
    """Returns the list of the octets of the code that a text writes."""
    labels = {}
    todo = []
    for at, line in enumerate(text.split("\n")):
        words = [word for word in line.split(" ") if word != ""]
        if words == []:
            continue
        if _is_label_line(words) and words[0][:-1] not in labels:
            labels[words[0][:-1]] = (at, len(todo))
        elif _is_instruction(words) and len(todo) < MOST_INSTRUCTIONS:
            todo.append((at, words))
        else:
            raise AssemblySyntaxError(at)
    if len(labels) == 0 and len(todo) == 0:
        raise AssemblySyntaxError(text.count("\n"))
    wrong = _wrong_lines(labels, todo)
    if wrong:
        raise AssemblySyntaxError(min(wrong))
    return [octet for _, words in todo for octet in _instruction_octets(words, labels)]


def _is_label_line(words):
    """Tells whether the words of a line are a label with a colon."""
    label = words[0][:-1]
    if len(words) != 1 or words[0][-1] != ":" or label == "":
        return False
    return label[0] in LETTERS and all(character in LETTERS + DIGITS for character in label)


def _operation_number(name):
    """Returns the number of the operation with a name, or None if there is none."""
    for number, operation in enumerate(OPERATIONS):
        if operation[0] == name:
            return number
    return None


def _word_kinds(number):
    """Returns the list of the kinds of the operands that are written for an operation."""
    return [kind for kind in _kinds(number) if kind != ""]


def _is_instruction(words):
    """Tells whether the words of a line are an instruction, whatever its target is."""
    number = _operation_number(words[0])
    if number is None:
        return False
    kinds = _word_kinds(number)
    return len(words) == len(kinds) + 1 and all(_is_operand(kind, word) for kind, word in zip(kinds, words[1:]))


def _is_operand(kind, word):
    """Tells whether a word can be an operand of a kind; every word can be a target."""
    if kind == "target":
        return True
    if len(word) > MOST_DIGITS or any(character not in DIGITS for character in word):
        return False
    if word[0] == "0" and word != "0":
        return False
    return int(word) < (REGISTERS if kind == "register" else OCTETS)


def _wrong_lines(labels, todo):
    """Returns the list of the lines with an unknown target, or with a label behind which no instruction follows."""
    wrong = [line for line, number in labels.values() if number == len(todo)]
    for line, words in todo:
        kinds = _word_kinds(_operation_number(words[0]))
        if any(kind == "target" and word not in labels for kind, word in zip(kinds, words[1:])):
            wrong.append(line)
    return wrong


def _instruction_octets(words, labels):
    """Returns the list of the octets of an instruction."""
    number = _operation_number(words[0])
    octets = [number]
    at = 1
    for kind in _kinds(number):
        if kind == "":
            octets.append(0)
            continue
        octets.append(labels[words[at]][1] if kind == "target" else int(words[at]))
        at += 1
    return octets
