"""Copies and migration: the pages of an archive are drawn again, or its parts are printed in another way."""

from scanpages.archives import all_bodies, pages_there, read_archive
from scanpages.errors import NoSuchPart
from scanpages.joining import read_scans
from scanpages.labels import page_label
from scanpages.pages import draw_page
from scanpages.primer import read_primer
from scanpages.restoring import print_library


def copy_pages(form, archive, beds):
    """Returns the list of the pairs of the number and the drawn page of all pages that can be copied."""
    label, bodies = pages_there(archive, read_scans(form, beds))
    if label is None:
        return []
    known = all_bodies(label, bodies)
    return [(number, draw_page(form, page_label(label, number), known[number])) for number in sorted(known)]


def migrate(primer, beds, settings):
    """Returns the pair of the primer and the list of the drawn pages of the migrated library."""
    form, archive = read_primer(primer)
    parts = read_archive(form, archive, beds).parts
    if parts is None or None in parts:
        raise NoSuchPart("a part is lost, or nothing is known")
    return print_library(settings, [list(part) for part in parts])
