"""Scans of printed pages for the tests, as they come from a scanner: in any turn and place, torn, noisy or joined."""

from scanpages.archives import print_archive
from scanpages.beds import laid
from scanpages.primer import write_primer
from tests.test_joining import torn_from


def library(settings, parts):
    """The primer and the pages of a library with any parts."""
    return write_primer(settings.form, settings.archive), print_archive(settings, parts)


def scan_anyhow(chance, form, page):
    """A bed on which a page lies anyhow."""
    height, width = form.side + chance.randrange(9), form.side + chance.randrange(9)
    return laid(page, chance.randrange(8), height, width, chance.randrange(height - form.side + 1),
                chance.randrange(width - form.side + 1))


def torn_scans(chance, form, page):
    """Two scans of which none can be read, but both together."""
    return [scan_anyhow(chance, form, torn_from(form, page, start)) for start in (0, 8)]


def noisy_bed(chance, length=60):
    """A bed with cells chosen by chance."""
    return [[chance.randrange(3) for _ in range(length)] for _ in range(length)]


def unreadable_beds(chance, form, pages):
    """Beds of which none gives anything: empty and noisy ones, and pages with too much damage."""
    beds = [[[0] * 44 for _ in range(44)], [[2]], noisy_bed(chance)]
    for page in pages:
        beds.append(scan_anyhow(chance, form, torn_from(form, page, 4)))
        # Without its turning marks no turn is found.
        beds.append(scan_anyhow(chance, form, [[2 if 1 in (row, column) or form.side - 2 in (row, column) else cell
                                                for column, cell in enumerate(cells)]
                                               for row, cells in enumerate(page)]))
    return beds


def damaged(chance, form, page):
    """A page with as much damage as the bounds allow: in its frame, its turning marks and each of its codewords."""
    rows = [list(row) for row in page]
    side = form.side
    for column in chance.sample(range(side), (side - 1) // 2):
        rows[0][column] = chance.randrange(3)
    # Some turning marks; the turning distance is much greater.
    for column in chance.sample(range(2, side - 2), 2):
        rows[1][column] = chance.randrange(3)
    for codeword in range(form.codewords):
        wrong = chance.randrange(form.checks // 2 + 1)
        gone = form.checks - 2 * wrong
        for at, number in enumerate(chance.sample(range(16), wrong + gone)):
            cells = [4 * (number * form.codewords + codeword) + digit for digit in range(4)]
            places = [(2 + cell // (side - 4), 2 + cell % (side - 4)) for cell in cells]
            row, column = chance.choice(places)
            rows[row][column] = 2 if at >= wrong else 1 - rows[row][column]
    return rows
