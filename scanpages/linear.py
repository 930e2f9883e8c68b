"""Systems of linear equations over the symbols."""

from scanpages.field import inverse, plus_scaled, scaled


def solve_system(rows, right):
    """Returns a solution of a system of equations, or None if there is none."""
    if rows == []:
        return []
    unknowns = len(rows[0])
    table, pivots = _eliminated([[*row, value] for row, value in zip(rows, right)], unknowns)
    if any(row[unknowns] != 0 for row in table[len(pivots):]):
        return None
    # The unknowns without a pivot are free; they are 0.
    solution = [0] * unknowns
    for row, pivot in zip(table, pivots):
        solution[pivot] = row[unknowns]
    return solution


def rank(rows):
    """Returns the greatest number of rows of which none is a sum of products of symbols with the others."""
    if rows == []:
        return 0
    pivots = _eliminated(rows, len(rows[0]))[1]
    return len(pivots)


def _eliminated(rows, columns):
    """Returns rows that span what the given ones span, and the list of the pivots of the first of them, in order.

    A pivot is the index of a column in which the row of the pivot has a 1 and all other rows have a 0. The rows behind
    those with a pivot have only zeros in the first columns, as many as columns says.
    """
    table = list(rows)
    pivots = []
    for column in range(columns):
        top = len(pivots)
        found = _first_with(table, column, top)
        if found is None:
            continue
        pivot_row = scaled(table[found], inverse(table[found][column]))
        table[found] = table[top]
        cleared = [plus_scaled(row, pivot_row, row[column]) for row in table]
        cleared[top] = pivot_row
        table = cleared
        pivots.append(column)
    return table, pivots


def _first_with(table, column, start):
    """Returns the index of the first row from start on that has no 0 in a column, or None."""
    for at in range(start, len(table)):
        if table[at][column] != 0:
            return at
    return None
