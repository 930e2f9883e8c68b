"""Reading scans: the page is found on the bed and turned upright."""

from scanpages.beds import check_bed
from scanpages.formats import CHECKS, Format
from scanpages.layout import BLACK, empty_page
from scanpages.pages import read_page
from scanpages.turns import TURNS, opposite, turned


def find_page(side, bed):
    """Returns the pair of the row and the column of the upper left corner of the page on a bed, or None."""
    height, width = check_bed(bed)
    columns = [list(column) for column in zip(*bed)]
    lost = (side - 1) // 2
    places = []
    for row in range(height - side + 1):
        for column in range(width - side + 1):
            # The first row of a ring cannot miss more than the whole ring; most squares are left out by it already.
            first_row = bed[row][column:column + side].count(BLACK)
            if first_row >= side - lost and _ring_blackness(bed, columns, side, row, column) >= 4 * side - 4 - lost:
                places.append((row, column))
    return places[0] if len(places) == 1 else None


def _ring_blackness(bed, columns, side, row, column):
    """Returns the number of the black cells in the outermost ring of a square of a bed."""
    bottom = row + side - 1
    right = column + side - 1
    # The corners are counted with the rows.
    black = bed[row][column:right + 1].count(BLACK) + bed[bottom][column:right + 1].count(BLACK)
    return black + columns[column][row + 1:bottom].count(BLACK) + columns[right][row + 1:bottom].count(BLACK)


def find_turn(rows):
    """Returns the turn of a page, or None if more than one turn has the greatest score."""
    ring = _second_ring(rows)
    marks = empty_page(Format(len(rows), CHECKS[0]))
    scores = []
    for turn in range(TURNS):
        expected = _second_ring(turned(marks, turn))
        scores.append(sum(1 for cell, mark in zip(ring, expected) if cell == mark))
    best = max(scores)
    return scores.index(best) if scores.count(best) == 1 else None


def _second_ring(rows):
    """Returns the list of the cells of the second ring of a square, always in the same order."""
    last = len(rows) - 1
    ring = rows[1][1:last] + rows[last - 1][1:last]
    for row in rows[2:last - 1]:
        ring.extend([row[1], row[last - 1]])
    return ring


def upright(side, bed):
    """Returns the square of the page on a bed, turned upright, or None if the page or its turn is not found."""
    place = find_page(side, bed)
    if place is None:
        return None
    top, left = place
    square = [row[left:left + side] for row in bed[top:top + side]]
    turn = find_turn(square)
    if turn is None:
        return None
    return turned(square, opposite(turn))


def read_scan(form, bed):
    """Returns the pair of the label and the body of the page on a bed, or None if the scan is unreadable."""
    square = upright(form.side, bed)
    if square is None:
        return None
    return read_page(form, square)
