"""Formats: how large pages are, and how much they hold."""

from scanpages.errors import InvalidFormat

LEAST_SIDE = 16
GREATEST_SIDE = 40
CHECKS = (2, 4, 6, 8)

# The frame and the turning marks together take so many rows or columns at each edge of a page.
MARGIN = 2
CODEWORD_SIZE = 16
SYMBOL_CELLS = 4
# A body begins with so many symbols before those of the octets; each octet then takes two.
HEAD_SYMBOLS = 10


class Format:
    """A format: the side of the pages, and the number of check symbols in each codeword."""

    def __init__(self, side, checks):
        if not LEAST_SIDE <= side <= GREATEST_SIDE or checks not in CHECKS:
            raise InvalidFormat("there is no such side or number of checks")
        self.side = side
        self.checks = checks
        if self.capacity < 1:
            raise InvalidFormat("a page of this format has no room for an octet")

    @property
    def data_symbols(self):
        """The number of the symbols of a codeword that are not check symbols."""
        return CODEWORD_SIZE - self.checks

    @property
    def codewords(self):
        """The number of the codewords of a page."""
        width = self.side - 2 * MARGIN
        return width * width // (CODEWORD_SIZE * SYMBOL_CELLS)

    @property
    def body_size(self):
        """The number of the symbols of a body."""
        return (self.codewords - 1) * self.data_symbols

    @property
    def capacity(self):
        """The number of the octets that a page can carry."""
        return (self.body_size - HEAD_SYMBOLS) // 2
