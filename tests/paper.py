"""Pages in the words of the document, slowly, and formats for the tests."""

import random

from scanpages.coding import encode
from scanpages.formats import Format

FORMS = [Format(side, checks) for side, checks in ((16, 2), (17, 4), (18, 8), (19, 6), (20, 4), (27, 2), (40, 8))]
NO_CELLS = (-1, 3, 4, 10 ** 20, -10 ** 5000)


def marks_colour(side, row, column):
    """The colour of a cell of the frame or the turning marks of a page."""
    if row in (0, side - 1) or column in (0, side - 1) or row == 1:
        return 1
    return 1 if column == 1 and row < side // 2 else 0


def slow_empty_page(side):
    """A page with frame and turning marks."""
    field = range(2, side - 2)
    return [[0 if row in field and column in field else marks_colour(side, row, column) for column in range(side)]
            for row in range(side)]


def slow_place(form, place):
    """The four cells of a place, found by counting the cells of the field."""
    field = [(row, column) for row in range(2, form.side - 2) for column in range(2, form.side - 2)]
    return field[4 * place:4 * place + 4]


def symbol_place(form, codeword, number):
    """The cells of a symbol of a codeword."""
    return slow_place(form, number * form.codewords + codeword)


def slow_page(form, codewords):
    """The page with some codewords."""
    page = slow_empty_page(form.side)
    for number, codeword in enumerate(codewords):
        for at, symbol in enumerate(codeword):
            for (row, column), digit in zip(symbol_place(form, number, at), f"{symbol:04b}", strict=True):
                page[row][column] = int(digit)
    return page


def page_codewords(form, label, body):
    """The codewords of a page."""
    size = 16 - form.checks
    first = [*divmod(label[0], 16), *divmod(label[1], 16), *divmod(label[2], 16), *label[3:]]
    contents = [first + [0] * (size - 8)] + [body[at:at + size] for at in range(0, len(body), size)]
    return [encode(content, 16) for content in contents]


def random_body(form, seed):
    """A body, chosen by chance."""
    chance = random.Random(seed)
    return [chance.randrange(16) for _ in range(form.body_size)]


def random_codewords(form, seed):
    """As many lists of 16 symbols as a page holds, chosen by chance."""
    chance = random.Random(seed)
    return [[chance.randrange(16) for _ in range(16)] for _ in range(form.codewords)]


def slow_turned(rows, turn):
    """A square after a turn, cell by cell."""
    last = len(rows) - 1
    if turn >= 4:
        rows = [[rows[row][last - column] for column in range(last + 1)] for row in range(last + 1)]
    for _ in range(turn % 4):
        # Turned clockwise by a quarter, the first row becomes the last column.
        new = [[None] * (last + 1) for _ in rows]
        for row in range(last + 1):
            for column in range(last + 1):
                new[column][last - row] = rows[row][column]
        rows = new
    return [list(row) for row in rows]


def with_cells(rows, changes):
    """Rows in which some cells are replaced: pairs of a place and a cell."""
    new = [list(row) for row in rows]
    for (row, column), cell in changes:
        new[row][column] = cell
    return new
