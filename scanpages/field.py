"""The field of the symbols from 0 to 15."""

from scanpages.errors import InvalidSymbol

SYMBOLS = 16
# The symbols except 0 are the powers of 2, which repeat after 15. So a product has the sum of two exponents.
POWERS = (1, 2, 4, 8, 3, 6, 12, 11, 5, 10, 7, 14, 15, 13, 9)
# EXPONENTS[a] is the exponent of the power of 2 that is a; 0 is none.
EXPONENTS = (None, 0, 1, 4, 2, 8, 5, 10, 3, 14, 9, 7, 6, 13, 11, 12)


def add(a, b):
    """Returns the sum of two symbols."""
    _check_symbol(a)
    _check_symbol(b)
    return a ^ b


def multiply(a, b):
    """Returns the product of two symbols."""
    _check_symbol(a)
    _check_symbol(b)
    if a == 0 or b == 0:
        return 0
    return POWERS[(EXPONENTS[a] + EXPONENTS[b]) % len(POWERS)]


def inverse(a):
    """Returns the inverse of a symbol."""
    _check_symbol(a)
    if a == 0:
        raise InvalidSymbol("0 has no inverse")
    return POWERS[(len(POWERS) - EXPONENTS[a]) % len(POWERS)]


def _check_symbol(a):
    """Checks that an integer is a symbol."""
    if not 0 <= a < SYMBOLS:
        raise InvalidSymbol("an integer is no symbol")
