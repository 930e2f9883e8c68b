"""Where the symbols of the codewords stand on a page."""

from scanpages.errors import InvalidPage, InvalidSymbol
from scanpages.field import is_symbol
from scanpages.formats import CODEWORD_SIZE, MARGIN, SYMBOL_CELLS

WHITE = 0
BLACK = 1
UNREADABLE = 2


def is_cell(integer):
    """Tells whether an integer is a cell."""
    return WHITE <= integer <= UNREADABLE


def empty_page(form):
    """Returns the page with its frame and its turning marks and a white field."""
    edge = [BLACK] * form.side
    field_row = [WHITE] * (form.side - 2 * MARGIN)
    page = [edge, list(edge)]
    for row in range(2, form.side - 1):
        mark = BLACK if row < form.side // 2 else WHITE
        page.append([BLACK, mark, *field_row, WHITE, BLACK])
    return [*page, list(edge)]


def place_cells(form, place):
    """Returns the list of the pairs of the row and the column of the four cells of a place."""
    if not 0 <= place < form.codewords * CODEWORD_SIZE:
        raise InvalidSymbol("there is no place with this number")
    width = form.side - 2 * MARGIN
    first = place * SYMBOL_CELLS
    return [(MARGIN + cell // width, MARGIN + cell % width) for cell in range(first, first + SYMBOL_CELLS)]


def written(form, codewords):
    """Returns the page with these codewords, with its frame and its turning marks."""
    _check_codewords(form, codewords)
    page = empty_page(form)
    symbols = [codeword[at] for at in range(CODEWORD_SIZE) for codeword in codewords]
    for place, symbol in enumerate(symbols):
        for (row, column), digit in zip(place_cells(form, place), _digits(symbol)):
            page[row][column] = digit
    return page


def taken(form, rows):
    """Returns the list of the received lists of the field of a page."""
    _check_square(form, rows)
    codewords = form.codewords
    shown = []
    for place in range(codewords * CODEWORD_SIZE):
        shown.append(_shown([rows[row][column] for row, column in place_cells(form, place)]))
    # In every row of places each codeword has one symbol.
    return [shown[number::codewords] for number in range(codewords)]


def _digits(symbol):
    """Returns the list of the four binary digits of a symbol, the one of the greatest weight first."""
    return [symbol // 8, symbol // 4 % 2, symbol // 2 % 2, symbol % 2]


def _shown(cells):
    """Returns the symbol that the four cells of a place show, or None if one of them is unreadable."""
    if UNREADABLE in cells:
        return None
    return cells[0] * 8 + cells[1] * 4 + cells[2] * 2 + cells[3]


def _check_codewords(form, codewords):
    """Checks that a list consists of as many lists of 16 symbols as a page has codewords."""
    if len(codewords) != form.codewords:
        raise InvalidPage("a page has another number of codewords")
    for codeword in codewords:
        if len(codeword) != CODEWORD_SIZE or not all(is_symbol(symbol) for symbol in codeword):
            raise InvalidPage("a codeword does not consist of 16 symbols")


def _check_square(form, rows):
    """Checks that rows are a square of cells of the size of a page."""
    if len(rows) != form.side:
        raise InvalidPage("a page has another number of rows")
    for row in rows:
        if len(row) != form.side or not all(is_cell(cell) for cell in row):
            raise InvalidPage("a row of the page has another length or something that is no cell")
