"""Turns: the eight ways in which a page may lie."""

from scanpages.errors import InvalidPage
from scanpages.formats import CHECKS, Format
from scanpages.layout import empty_page

TURNS = 8
QUARTERS = 4


def turned(rows, turn):
    """Returns a square after a turn."""
    if any(len(row) != len(rows) for row in rows):
        raise InvalidPage("the rows are no square")
    _check_turn(turn)
    square = [list(row) for row in rows]
    if turn >= QUARTERS:
        square = [row[::-1] for row in square]
    for _ in range(turn % QUARTERS):
        upside_down = square[::-1]
        square = [list(column) for column in zip(*upside_down)]
    return square


def opposite(turn):
    """Returns the turn that undoes a turn."""
    _check_turn(turn)
    # An exchange of left and right comes first, and it makes a clockwise quarter a counterclockwise one.
    return turn if turn >= QUARTERS else (QUARTERS - turn) % QUARTERS


def combined(first, second):
    """Returns the turn that does the same as two turns, one after the other."""
    _check_turn(first)
    _check_turn(second)
    if second < QUARTERS:
        quarters = (first + second) % QUARTERS
    else:
        quarters = (second - first) % QUARTERS
    exchanged = (first >= QUARTERS) != (second >= QUARTERS)
    return quarters + QUARTERS if exchanged else quarters


def turning_distance(side):
    """Returns the least number of cells in which the turning marks differ between two turns."""
    # Two turns differ in as many cells as turn 0 and another one. The frame is the same after each turn.
    page = empty_page(Format(side, CHECKS[0]))
    return min([_differences(page, turned(page, turn)) for turn in range(1, TURNS)])


def _differences(first, second):
    """Returns the number of cells in which two squares differ."""
    return sum(1 for row, other in zip(first, second) for cell, another in zip(row, other) if cell != another)


def _check_turn(turn):
    """Checks that an integer is a turn."""
    if not 0 <= turn < TURNS:
        raise InvalidPage("there is no turn with this number")
