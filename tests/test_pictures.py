"""Point 72, with point 44."""

import itertools
import random

from scanpages.errors import InvalidBed
from scanpages.pictures import bed_picture, picture_bed
from tests.support import ProgramTest
from tests.test_beds import NO_BEDS


class PicturesTest(ProgramTest):

    def check(self, bed, picture):
        """Draws the picture of a bed, and reads it."""
        self.assertEqual(picture, self.pure(bed_picture, bed))
        self.assertEqual(bed, self.pure(picture_bed, picture))

    def test_cells(self):
        self.check([[0]], ".\n")
        self.check([[1]], "#\n")
        self.check([[2]], "?\n")
        self.check([[0, 1, 2], [2, 0, 1]], ".#?\n?.#\n")

    def test_sizes(self):
        for height, width in itertools.product((1, 2, 59, 60), repeat=2):
            for cell, sign in enumerate(".#?"):
                self.check([[cell] * width for _ in range(height)], (sign * width + "\n") * height)

    def test_rows_are_not_shared(self):
        bed = picture_bed("..\n..\n")
        bed[0][0] = 1
        self.assertEqual([[1, 0], [0, 0]], bed)

    def test_beds_by_chance(self):
        chance = random.Random(1)
        for _ in range(50):
            width = chance.randrange(1, 61)
            bed = [[chance.randrange(3) for _ in range(width)] for _ in range(chance.randrange(1, 61))]
            self.check(bed, "".join("".join(".#?"[cell] for cell in row) + "\n" for row in bed))

    def test_all_small_texts(self):
        for length in range(7):
            for signs in itertools.product(".#\n", repeat=length):
                text = "".join(signs)
                lines = text.split("\n")
                if lines[-1] == "" and len(lines) > 1 and "" not in lines[:-1] and len(set(map(len, lines[:-1]))) == 1:
                    self.assertEqual(text, bed_picture(picture_bed(text)))
                else:
                    self.raised(InvalidBed, picture_bed, text)

    def test_no_beds(self):
        for bed in (*NO_BEDS, [[3]], [[-1]], [[0, 1], [1, 10 ** 5000]]):
            self.raised(InvalidBed, bed_picture, bed)

    def test_no_pictures(self):
        line = ".#?\n"
        for text in ("", "\n", "\n\n", ".", line[:-1], line + line[:-1], line + "\n", "\n" + line, line + "\n" + line,
                     line + ".#\n", ".#\n" + line, line + ".#??\n", line * 61, "." * 61 + "\n", ("." * 61 + "\n") * 61,
                     "." * 60, line + "."):
            self.raised(InvalidBed, picture_bed, text)
        self.assertEqual(60, len(picture_bed(line * 60)))

    def test_other_signs(self):
        for sign in " 012x,!\r\t%\u00e9\\":
            for text in (f"{sign}\n", f".{sign}.\n", f"...\n..{sign}\n...\n", f"{sign}..\n", f"...{sign}"):
                self.raised(InvalidBed, picture_bed, text)
