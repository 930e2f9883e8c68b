"""Point 30."""

import itertools

from scanpages.errors import InvalidSymbol
from scanpages.field import add, inverse, multiply
from tests.support import ProgramTest

SYMBOLS = range(16)
WRONG = (-1, 16, -16, 17, 255, 256, 10 ** 20, -10 ** 5000)


def twice(symbol):
    """Twice a symbol, in the words of the document."""
    shifted = symbol * 2
    return shifted ^ 19 if shifted >= 16 else shifted


def slow_product(a, b):
    """The product of two symbols, in the words of the document."""
    total = 0
    for place in range(4):
        if b // 2 ** place % 2 == 1:
            total = total ^ a
        a = twice(a)
    return total


class FieldTest(ProgramTest):

    def test_example(self):
        self.assertEqual((1, 6, 10), (multiply(9, 2), multiply(7, 7), multiply(15, 15)))

    def test_sums(self):
        for a, b in itertools.product(SYMBOLS, repeat=2):
            self.assertEqual(a ^ b, add(a, b))

    def test_products(self):
        for a, b in itertools.product(SYMBOLS, repeat=2):
            self.assertEqual(slow_product(a, b), multiply(a, b))

    def test_inverses(self):
        for a in range(1, 16):
            self.assertIn(inverse(a), SYMBOLS)
            self.assertEqual(1, slow_product(a, inverse(a)))
            self.assertEqual([inverse(a)], [b for b in SYMBOLS if multiply(a, b) == 1])

    def test_rules(self):
        for a, b, c in itertools.product(SYMBOLS, repeat=3):
            self.assertEqual(multiply(a, multiply(b, c)), multiply(multiply(a, b), c))
            self.assertEqual(multiply(a, add(b, c)), add(multiply(a, b), multiply(a, c)))

    def test_no_symbols(self):
        for wrong in WRONG:
            self.raised(InvalidSymbol, inverse, wrong)
            for call in (add, multiply):
                for symbol in SYMBOLS:
                    self.raised(InvalidSymbol, call, wrong, symbol)
                    self.raised(InvalidSymbol, call, symbol, wrong)
                self.raised(InvalidSymbol, call, wrong, wrong)

    def test_0_has_no_inverse(self):
        self.raised(InvalidSymbol, inverse, 0)
