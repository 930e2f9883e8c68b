"""The primer: a page of plain words that tells a reader how to begin."""

from scanpages.errors import InvalidArchive, InvalidFormat, PrimerError
from scanpages.formats import CHECKS, GREATEST_SIDE, LEAST_SIDE, Format
from scanpages.labels import GREATEST_ARCHIVE
from scanpages.machine import OPERATIONS


def write_primer(form, archive):
    """Returns the primer of an archive."""
    if not 0 <= archive <= GREATEST_ARCHIVE:
        raise InvalidArchive("there is no archive with this number")
    return _archive_line(archive) + "".join([*_page_lines(form), *_codeword_lines(form), *_archive_lines()])


def _archive_line(archive):
    """Returns the line that tells the number of the archive."""
    return f"This archive has the number {archive}.\n"


def _page_lines(form):
    """Returns the list of the lines that tell what a page looks like."""
    side = form.side
    codewords = form.codewords
    return [
        f"A page is a square of {side} rows of {side} dots. All dots of its outermost ring are black.\n",
        f"In the next ring the dots of the first row are black, and those of the first column above row {side // 2}.\n",
        "Rows and columns are counted from 0. So a page can be turned until it stands upright.\n",
        "The dots inside of the two rings are read row by row, four for each symbol, black for 1.\n",
        f"They hold {codewords} codewords of 16 symbols. Symbol s of codeword w is number s * {codewords} + w.\n",
    ]


def _codeword_lines(form):
    """Returns the list of the lines that tell what a codeword is."""
    count = form.data_symbols
    return [
        f"The first {count} symbols of a codeword are its contents, the other {form.checks} are checks.\n",
        f"A codeword is a row of values, at the points 0 to 15, of a polynomial of degree below {count}.\n",
        "Symbols are added by exclusive or. Doubling shifts to the left; what exceeds 15 is combined with 19.\n",
    ]


def _archive_lines():
    """Returns the list of the lines that tell what the codewords and the parts are."""
    lines = [
        "Codeword 0 names the archive, the page, the number of data pages, the group size and the group checks.\n",
        "The other codewords name the part, the parts, the slice, the slices and the octets, which follow.\n",
        "Part 0 is the code of a machine with eight registers; it reads a part and writes what the part stands for.\n",
        "Its operations are, with three octets for each instruction:\n",
    ]
    for number, operation in enumerate(OPERATIONS):
        lines.append(" ".join([str(number), *[word for word in operation if word != ""]]) + "\n")
    return lines


def read_primer(text):
    """Returns the pair of the format and the archive number of a primer."""
    for archive in range(GREATEST_ARCHIVE + 1):
        if text.startswith(_archive_line(archive)):
            return _primer_form(text, archive), archive
    raise PrimerError("the text does not begin with the number of an archive")


def _primer_form(text, archive):
    """Returns the format with which a text is the primer of an archive."""
    for form in _all_forms():
        if text == write_primer(form, archive):
            return form
    raise PrimerError("the text is not the primer of an archive with any format")


def _all_forms():
    """Returns the list of all formats."""
    forms = []
    for side in range(LEAST_SIDE, GREATEST_SIDE + 1):
        for checks in CHECKS:
            try:
                forms.append(Format(side, checks))
            except InvalidFormat:
                # A small page with many checks has no room for an octet.
                continue
    return forms
