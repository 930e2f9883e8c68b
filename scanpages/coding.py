"""Codewords: symbols with check symbols, by which wrong and missing symbols are corrected."""

from scanpages.errors import InvalidSymbol
from scanpages.field import PRODUCTS, inverse, is_symbol, multiply, plus_scaled
from scanpages.polynomials import add_polynomials, divide, evaluate, interpolate, multiply_polynomials

# A codeword has at most one symbol for each point, and the points are the symbols.
LONGEST = 16


def encode(symbols, size):
    """Returns the codeword of some symbols."""
    count = len(symbols)
    if not 1 <= count <= size <= LONGEST:
        raise InvalidSymbol("there is no codeword of this size")
    if not all(is_symbol(symbol) for symbol in symbols):
        raise InvalidSymbol("an item is no symbol")
    points = list(range(count))
    checks = extended(points, [[symbol] for symbol in symbols], list(range(count, size)))
    return list(symbols) + [row[0] for row in checks]


def restored(received, count):
    """Returns the codeword that agrees with the first count entries that are there, or None if fewer are there."""
    _check_received(received, count)
    points = [at for at, entry in enumerate(received) if entry is not None][:count]
    if len(points) < count:
        return None
    others = [at for at in range(len(received)) if at not in points]
    rows = extended(points, [[received[at]] for at in points], others)
    codeword = list(received)
    for at, row in zip(others, rows):
        codeword[at] = row[0]
    return codeword


def corrected(received, count):
    """Returns the near codeword of a received list, or None if no codeword is near."""
    # Most lists are hardly damaged; so what is found easily is tried first.
    simple = restored(received, count)
    if simple is None or _is_near(simple, received, count):
        return simple
    poly = _near_polynomial(received, count)
    if poly is None:
        return None
    return [evaluate(poly, point) for point in range(len(received))]


def extended(points, rows, targets):
    """Returns the list of the rows of values at some targets, for polynomials that are given by their values.

    Row number k consists of the values at point number k, and the polynomials have a degree less than the number of
    the points. The points are different from each other, and there is at least one.
    """
    found = []
    for target in targets:
        total = [0] * len(rows[0])
        for point, row in zip(points, rows):
            total = plus_scaled(total, row, _weight(points, point, target))
        found.append(total)
    return found


def _weight(points, own, target):
    """Returns the value at a target of the polynomial that is 1 at the point own and 0 at the other points."""
    above = 1
    below = 1
    for point in points:
        if point != own:
            above = PRODUCTS[above][target ^ point]
            below = PRODUCTS[below][own ^ point]
    return multiply(above, inverse(below))


def _check_received(received, count):
    """Checks that a list is a received list for codewords of so many symbols."""
    if not 1 <= count <= len(received) <= LONGEST:
        raise InvalidSymbol("there is no codeword of this size")
    if not all(entry is None or is_symbol(entry) for entry in received):
        raise InvalidSymbol("an entry is no symbol")


def _is_near(codeword, received, count):
    """Tells whether a codeword is near to a received list."""
    missing = received.count(None)
    wrong = sum(1 for symbol, entry in zip(codeword, received) if entry is not None and entry != symbol)
    return 2 * wrong + missing <= len(received) - count


def _near_polynomial(received, count):
    """Returns the polynomial of the near codeword of a received list, or None if no codeword is near.

    The polynomial that is 0 at the points of all entries and the one through all entries are divided as for their
    greatest common divisor. In each line of this, the rest has at these points the values of the factor times the
    entries. In the first line in which the rest has a low degree, the factor has at most as many zeros as entries may
    be wrong. If the rest is a low polynomial times the factor, this polynomial differs from the entries only at the
    zeros of the factor; and if a codeword is near, its polynomial is found in this way.
    """
    points = [(at, entry) for at, entry in enumerate(received) if entry is not None]
    before = [1]
    for point, _ in points:
        before = multiply_polynomials(before, [point, 1])
    rest = interpolate(points)
    factor_before = []
    factor = [1]
    while 2 * (len(rest) - 1) >= len(points) + count:
        quotient, next_rest = divide(before, rest)
        before, rest = rest, next_rest
        next_factor = add_polynomials(factor_before, multiply_polynomials(quotient, factor))
        factor_before, factor = factor, next_factor
    poly, left = divide(rest, factor)
    return poly if left == [] and len(poly) <= count else None
