"""Points 54 and 55, with point 24 for the lines of the operations."""

import itertools

from scanpages.errors import InvalidArchive, InvalidFormat, PrimerError
from scanpages.formats import Format
from scanpages.primer import read_primer, write_primer
from tests.support import ProgramTest

# The lines of point 54, with the letters of the document in braces.
LINES = """\
This archive has the number {A}.
A page is a square of {S} rows of {S} dots. All dots of its outermost ring are black.
In the next ring the dots of the first row are black, and those of the first column above row {H}.
Rows and columns are counted from 0. So a page can be turned until it stands upright.
The dots inside of the two rings are read row by row, four for each symbol, black for 1.
They hold {M} codewords of 16 symbols. Symbol s of codeword w is number s * {M} + w.
The first {C} symbols of a codeword are its contents, the other {K} are checks.
A codeword is a row of values, at the points 0 to 15, of a polynomial of degree below {C}.
Symbols are added by exclusive or. Doubling shifts to the left; what exceeds 15 is combined with 19.
Codeword 0 names the archive, the page, the number of data pages, the group size and the group checks.
The other codewords name the part, the parts, the slice, the slices and the octets, which follow.
Part 0 is the code of a machine with eight registers; it reads a part and writes what the part stands for.
Its operations are, with three octets for each instruction:
0 halt
1 fail
2 set register octet
3 copy register register
4 add register register
5 sub register register
6 less register register
7 read register target
8 write register
9 back register register
10 jump target
11 zero register target
"""
NO_ARCHIVES = (-1, 256, 257, 10 ** 20, -10 ** 5000)


def all_forms():
    """All formats, by trying."""
    for side, checks in itertools.product(range(16, 41), (2, 4, 6, 8)):
        try:
            yield Format(side, checks)
        except InvalidFormat:
            pass


def expected_primer(side, checks, archive):
    """The primer in the words of the document, whether there is such a format or not."""
    codewords = (side - 4) ** 2 // 64
    return LINES.format(A=archive, S=side, H=side // 2, M=codewords, C=16 - checks, K=checks)


class WriteTest(ProgramTest):

    def test_the_words_of_the_document(self):
        forms = list(all_forms())
        self.assertEqual(96, len(forms))
        for form, archive in itertools.product(forms, (0, 7, 10, 99, 100, 255)):
            self.assertEqual(expected_primer(form.side, form.checks, archive), write_primer(form, archive))

    def test_one_primer_in_full(self):
        lines = self.pure(write_primer, Format(17, 4), 42).split("\n")
        self.assertEqual(26, len(lines))
        self.assertEqual("This archive has the number 42.", lines[0])
        self.assertEqual("A page is a square of 17 rows of 17 dots. All dots of its outermost ring are black.", lines[1])
        self.assertEqual("In the next ring the dots of the first row are black, and those of the first column above "
                         "row 8.", lines[2])
        self.assertEqual("They hold 2 codewords of 16 symbols. Symbol s of codeword w is number s * 2 + w.", lines[5])
        self.assertEqual("The first 12 symbols of a codeword are its contents, the other 4 are checks.", lines[6])
        self.assertEqual("A codeword is a row of values, at the points 0 to 15, of a polynomial of degree below 12.",
                         lines[7])
        self.assertEqual(["11 zero register target", ""], lines[-2:])

    def test_the_format_stays(self):
        form = Format(21, 6)
        self.pure(write_primer, form, 3)
        self.assertEqual((21, 6), (form.side, form.checks))

    def test_archive_numbers(self):
        form = Format(20, 4)
        for archive in (0, 1, 254, 255):
            self.assertTrue(write_primer(form, archive).startswith(f"This archive has the number {archive}.\n"))
        for archive in NO_ARCHIVES:
            self.raised(InvalidArchive, write_primer, form, archive)


class ReadTest(ProgramTest):

    def check_read(self, form, archive):
        """Reads the primer of an archive."""
        found, number = self.pure(read_primer, write_primer(form, archive))
        self.assertIsInstance(found, Format)
        self.assertEqual((form.side, form.checks, archive), (found.side, found.checks, number))

    def refuse(self, text):
        """Fails if a text is taken as a primer."""
        with self.assertRaises(PrimerError, msg=text) as caught:
            read_primer(text)
        self.assertIs(PrimerError, type(caught.exception))

    def test_example(self):
        text = write_primer(Format(20, 4), 7)
        result = read_primer(text)
        self.assertIs(tuple, type(result))
        form, archive = result
        self.assertEqual((20, 4, 7, "This archive has the number 7.", "10 jump target"),
                         (form.side, form.checks, archive, text.split("\n")[0], text.split("\n")[-3]))

    def test_each_format(self):
        for form in all_forms():
            self.check_read(form, 199)

    def test_each_archive_number(self):
        for archive in range(256):
            self.check_read(Format(23, 6), archive)

    def test_the_format_is_new(self):
        text = write_primer(Format(20, 4), 7)
        self.assertIsNot(read_primer(text)[0], read_primer(text)[0])

    def test_one_character_replaced(self):
        text = write_primer(Format(20, 4), 7)
        for at in range(len(text)):
            # Any other digit makes the primer of another archive, but only in this one place.
            character = "x" if at == text.index("7") or text[at] == "9" else "9"
            self.refuse(text[:at] + character + text[at + 1:])
        self.assertEqual(9, read_primer(text.replace("7", "9", 1))[1])

    def test_one_character_left_out(self):
        text = write_primer(Format(20, 4), 123)
        numbers = range(text.index("1"), text.index("1") + 3)
        for at in range(len(text)):
            if at not in numbers:
                self.refuse(text[:at] + text[at + 1:])
        self.assertEqual(23, read_primer(text.replace("123", "23", 1))[1])

    def test_one_character_put_in(self):
        text = write_primer(Format(20, 4), 7)
        for at in range(len(text) + 1):
            character = " \nx0"[at * 7 // 5 % 4]
            if (at, character) != (text.index("7") + 1, "0"):
                self.refuse(text[:at] + character + text[at:])
        self.assertEqual(70, read_primer(text.replace("7", "70", 1))[1])

    def test_lines(self):
        lines = write_primer(Format(16, 2), 7).split("\n")
        for at, line in enumerate(lines[:-1]):
            self.refuse("\n".join(lines[:at] + lines[at + 1:]))
            self.refuse("\n".join(lines[:at] + [line] + lines[at:]))
            self.refuse("\n".join(lines[:-1] + [line, ""]))
            self.refuse("\n".join(lines[:at] + [line + " "] + lines[at + 1:]))
        self.refuse("\n".join(lines[::-1]))
        self.refuse("\n".join(lines + [""]))
        self.refuse("\n".join(lines[:-1]))
        self.refuse("\n".join([lines[1], lines[0], *lines[2:]]))

    def test_line_ends(self):
        text = write_primer(Format(16, 2), 7)
        self.refuse(text.replace("\n", "\r\n"))
        self.refuse(text.upper())
        self.refuse(text[:-1])
        self.refuse(text + "\n")
        self.refuse("\n" + text)
        self.refuse(text + text)

    def test_numbers(self):
        text = write_primer(Format(20, 4), 7)
        for number in ("07", "007", "256", "300", "-7", "+7", "", " 7", "7.0", "1000", "x"):
            self.refuse(text.replace("7", number, 1))
        self.refuse(text.replace("20 rows", "020 rows"))
        self.refuse(text.replace("other 4 are", "other 04 are"))

    def test_numbers_that_belong_to_different_formats(self):
        text = write_primer(Format(20, 4), 7)
        self.refuse(text.replace("20 rows of 20", "22 rows of 22"))
        self.refuse(text.replace("20 rows of 20", "20 rows of 21"))
        self.refuse(text.replace("20 rows of 20", "21 rows of 20"))
        self.refuse(text.replace("row 10.", "row 11."))
        self.refuse(text.replace("hold 4", "hold 5"))
        self.refuse(text.replace("s * 4 + w", "s * 5 + w"))
        self.refuse(text.replace("The first 12", "The first 10"))
        self.refuse(text.replace("other 4 are", "other 6 are"))
        self.refuse(text.replace("below 12", "below 10"))
        # The sides 20 and 21 have the same half and as many codewords; 26 and 27 differ in both.
        self.assertEqual(21, read_primer(text.replace("20 rows of 20", "21 rows of 21"))[0].side)
        self.refuse(write_primer(Format(27, 4), 7).replace("27", "26"))

    def test_formats_that_do_not_exist(self):
        self.assertEqual(write_primer(Format(17, 4), 7), expected_primer(17, 4, 7))
        for side, checks in ((17, 6), (17, 8), (16, 6), (16, 8), (15, 2), (41, 2), (20, 3), (20, 0), (20, 10)):
            self.refuse(expected_primer(side, checks, 7))

    def test_texts_that_are_something_else(self):
        for text in ("", "\n", "This archive has the number 7.\n", "This archive has the number 7.", "primer", " " * 4000,
                     "7\n" * 2000, "\n" * 4000):
            self.raised(PrimerError, read_primer, text)
