"""Points 36 and 37."""

from scanpages.errors import InvalidFormat
from scanpages.formats import Format
from tests.support import ProgramTest

ALLOWED = [(side, checks) for side in range(16, 41) for checks in (2, 4, 6, 8)
           if side >= 18 or checks <= 4]


class FormatTest(ProgramTest):

    def test_example(self):
        form = Format(20, 4)
        self.assertEqual((4, 36, 13), (form.codewords, form.body_size, form.capacity))

    def test_the_words_of_the_document(self):
        for side, checks in ALLOWED:
            form = Format(side, checks)
            self.assertEqual((side, checks), (form.side, form.checks))
            cells = sum(1 for row in range(side) for column in range(side)
                        if 2 <= row < side - 2 and 2 <= column < side - 2)
            codewords = 0
            while 64 * (codewords + 1) <= cells:
                codewords += 1
            self.assertEqual(codewords, form.codewords)
            self.assertEqual(16 - checks, form.data_symbols)
            self.assertEqual((codewords - 1) * (16 - checks), form.body_size)
            self.assertEqual((form.body_size - 10) // 2, form.capacity)
            self.assertGreaterEqual(form.capacity, 1)

    def test_some_formats(self):
        for side, checks, codewords, body_size, capacity in (
            (16, 2, 2, 14, 2), (16, 4, 2, 12, 1), (17, 2, 2, 14, 2), (17, 4, 2, 12, 1), (18, 2, 3, 28, 9),
            (18, 8, 3, 16, 3), (40, 2, 20, 266, 128), (40, 8, 20, 152, 71), (39, 6, 19, 180, 85),
        ):
            form = Format(side, checks)
            self.assertEqual((16 - checks, codewords, body_size, capacity),
                             (form.data_symbols, form.codewords, form.body_size, form.capacity))

    def test_sides_and_checks(self):
        for side in [*range(-2, 60), 10 ** 5000, -10 ** 5000]:
            for checks in [*range(-2, 20), 10 ** 5000, -10 ** 5000]:
                if (side, checks) not in ALLOWED:
                    self.raised(InvalidFormat, Format, side, checks)

    def test_too_little_room(self):
        for side in (16, 17):
            for checks in (6, 8):
                self.raised(InvalidFormat, Format, side, checks)
            for checks in (2, 4):
                Format(side, checks)
