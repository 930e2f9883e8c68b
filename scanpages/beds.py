"""Beds: what a scanner sees."""

from scanpages.errors import DoesNotFit, InvalidBed
from scanpages.layout import BLACK, UNREADABLE, WHITE, is_cell
from scanpages.turns import turned

GREATEST_LENGTH = 60


def check_bed(bed):
    """Returns the pair of the numbers of rows and columns of a bed."""
    height = len(bed)
    if not is_length(height):
        raise InvalidBed("a bed has another number of rows")
    width = len(bed[0])
    if not is_length(width):
        raise InvalidBed("a bed has another number of columns")
    for row in bed:
        if len(row) != width or row.count(WHITE) + row.count(BLACK) + row.count(UNREADABLE) != width:
            raise InvalidBed("a row of the bed has another length or something that is no cell")
    return height, width


def is_length(integer):
    """Tells whether a bed may have so many rows or columns."""
    return 1 <= integer <= GREATEST_LENGTH


def laid(page, turn, height, width, row, column):
    """Returns the white bed on which a page is laid after a turn, with its upper left corner at a row and a column."""
    square = turned(page, turn)
    if not is_length(height) or not is_length(width):
        raise InvalidBed("there is no bed of this size")
    side = len(square)
    # A square without cells has no cell that could lie outside of the bed.
    if side > 0 and not (0 <= row <= height - side and 0 <= column <= width - side):
        raise DoesNotFit("the page does not fit on the bed here")
    bed = [[WHITE] * width for _ in range(height)]
    for at, cells in enumerate(square):
        bed[row + at][column:column + side] = cells
    return bed


def changed(bed, changes):
    """Returns the bed in which some cells are replaced, one after the other."""
    height, width = check_bed(bed)
    rows = [list(row) for row in bed]
    for row, column, cell in changes:
        if not 0 <= row < height or not 0 <= column < width or not is_cell(cell):
            raise InvalidBed("a change is not on the bed, or puts something there that is no cell")
        rows[row][column] = cell
    return rows
