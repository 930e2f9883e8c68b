"""Planning: how large the groups of an archive should be."""

from scanpages.archives import MOST_OCTETS
from scanpages.errors import InvalidArchive
from scanpages.labels import GREATEST_GROUP, MOST_PAGES, all_pages, is_group
from scanpages.slices import MOST_PARTS, slice_count


def plan(form, sizes, losses):
    """Returns the pair of the group size and the number of all pages of a plan, or None if there is no plan."""
    _check_sizes(sizes)
    if losses < 0:
        raise InvalidArchive("fewer than no pages cannot be lost")
    data_pages = sum(slice_count(size, form.capacity) for size in sizes)
    best = None
    for group in range(1, GREATEST_GROUP + 1):
        if not is_group(group, losses):
            continue
        pages = all_pages(data_pages, group, losses)
        # Of group sizes with the same number of pages the last one is the greatest.
        if pages <= MOST_PAGES and (best is None or pages <= best[1]):
            best = (group, pages)
    return best


def _check_sizes(sizes):
    """Checks that an archive may have parts of these sizes."""
    if not 1 <= len(sizes) <= MOST_PARTS:
        raise InvalidArchive("there is no archive with so many parts")
    if any(not 0 <= size <= MOST_OCTETS for size in sizes):
        raise InvalidArchive("there is no part of this size")
