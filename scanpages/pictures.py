"""Pictures: beds as texts."""

from scanpages.beds import check_bed
from scanpages.errors import InvalidBed

# The place of a sign is the cell that it stands for.
SIGNS = ".#?"


def bed_picture(bed):
    """Returns the picture of a bed."""
    check_bed(bed)
    return "".join(["".join([SIGNS[cell] for cell in row]) + "\n" for row in bed])


def picture_bed(text):
    """Returns the bed of a picture."""
    *lines, rest = text.split("\n")
    if rest != "":
        raise InvalidBed("the last line of the picture has no line feed")
    bed = [[_sign_cell(sign) for sign in line] for line in lines]
    check_bed(bed)
    return bed


def _sign_cell(sign):
    """Returns the cell for which a sign stands."""
    if sign not in SIGNS:
        raise InvalidBed("the picture has a sign that stands for no cell")
    return SIGNS.index(sign)
