"""Reports: what became of the pages and the parts of an archive."""

from scanpages.archives import all_bodies, pages_there, put_together
from scanpages.joining import read_scans
from scanpages.labels import check_label


def report(form, archive, beds):
    """Returns the report on the scans of an archive."""
    pairs = read_scans(form, beds)
    label, bodies = pages_there(archive, pairs)
    if label is None:
        return "nothing\n"
    found = put_together(form, archive, pairs)
    return "".join(_page_lines(label, bodies) + _part_lines(found.parts))


def _page_lines(label, bodies):
    """Returns the list of the lines for the pages of an archive; the dict has the bodies of those that are read."""
    known = all_bodies(label, bodies)
    lines = []
    for number in range(check_label(label)):
        word = "lost"
        if number in bodies:
            word = "read"
        elif number in known:
            word = "computed"
        lines.append(f"{number} {word}\n")
    return lines


def _part_lines(parts):
    """Returns the list of the lines for the parts of an archive, or for None if nothing is known about them."""
    if parts is None:
        return ["parts unknown\n"]
    lines = []
    for number, part in enumerate(parts):
        word = "lost" if part is None else "whole"
        lines.append(f"part {number} {word}\n")
    return lines
