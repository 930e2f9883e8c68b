"""Labels: what a page says of itself and of its archive."""

from scanpages.errors import InvalidLabel
from scanpages.field import SYMBOLS, is_symbol

GREATEST_ARCHIVE = 255
MOST_PAGES = 255
GREATEST_GROUP = 12
# The data pages and the check pages of a group together.
MOST_GROUP_PAGES = 16
LABEL_SYMBOLS = 8


def two_symbols(integer):
    """Returns the list of the two symbols of an integer from 0 to 255."""
    return [integer // SYMBOLS, integer % SYMBOLS]


def two_symbols_integer(symbols):
    """Returns the integer with these two symbols."""
    return symbols[0] * SYMBOLS + symbols[1]


def is_group(size, checks):
    """Tells whether there are groups of this size with so many check pages each."""
    return 1 <= size <= GREATEST_GROUP and 0 <= checks <= MOST_GROUP_PAGES - size


def group_count(data_pages, size):
    """Returns the number of the groups of an archive."""
    return (data_pages + size - 1) // size


def all_pages(data_pages, size, checks):
    """Returns the number of all pages of an archive."""
    return data_pages + group_count(data_pages, size) * checks


def check_label(label):
    """Returns the number of all pages of the archive of a label."""
    archive, page, data_pages, size, checks = label
    if not 0 <= archive <= GREATEST_ARCHIVE or not 1 <= data_pages <= MOST_PAGES or not is_group(size, checks):
        raise InvalidLabel("there is no archive like this")
    pages = all_pages(data_pages, size, checks)
    if pages > MOST_PAGES or not 0 <= page < pages:
        raise InvalidLabel("the archive has too many pages, or not this one")
    return pages


def page_label(label, page):
    """Returns the label of a page of the archive of a label."""
    archive, _, data_pages, size, checks = label
    return archive, page, data_pages, size, checks


def label_symbols(label):
    """Returns the list of the eight symbols of a label."""
    check_label(label)
    archive, page, data_pages, size, checks = label
    return [*two_symbols(archive), *two_symbols(page), *two_symbols(data_pages), size, checks]


def symbols_label(symbols):
    """Returns the label with these eight symbols."""
    if len(symbols) != LABEL_SYMBOLS or not all(is_symbol(symbol) for symbol in symbols):
        raise InvalidLabel("these are not eight symbols")
    archive, page, data_pages = [two_symbols_integer(symbols[start:start + 2]) for start in (0, 2, 4)]
    label = (archive, page, data_pages, symbols[6], symbols[7])
    check_label(label)
    return label


def group_pages(label, group):
    """Returns the list of the numbers of the pages of a group: its data pages, then its check pages."""
    check_label(label)
    _, _, data_pages, size, checks = label
    if not 0 <= group < group_count(data_pages, size):
        raise InvalidLabel("there is no group with this number")
    first = group * size
    first_check = data_pages + group * checks
    return list(range(first, min(first + size, data_pages))) + list(range(first_check, first_check + checks))
