"""Restoring: libraries are printed, and their contents are restored from a primer and scans."""

from scanpages.archives import print_archive, read_archive
from scanpages.compression import pack
from scanpages.errors import InvalidCode
from scanpages.expander import expand_by_machine, expander_code
from scanpages.primer import read_primer, write_primer


class Recovered:
    """What was restored: the code, the contents, and the numbers of the lost and of the refused parts."""

    def __init__(self, code, contents, lost, refused):
        self.code = None if code is None else tuple(code)
        self.contents = tuple([None if content is None else tuple(content) for content in contents])
        self.lost = tuple(lost)
        self.refused = tuple(refused)


def publish(settings, contents):
    """Returns the pair of the primer and the list of the drawn pages of the library of some contents."""
    return print_library(settings, [expander_code(), *[pack(content) for content in contents]])


def print_library(settings, parts):
    """Returns the pair of the primer and the list of the drawn pages of the library with these parts."""
    return write_primer(settings.form, settings.archive), print_archive(settings, parts)


def restore(primer, beds, limit):
    """Returns what is restored from a primer and a list of beds."""
    form, archive = read_primer(primer)
    found = read_archive(form, archive, beds)
    if found.parts is None:
        return Recovered(None, (), (), ())
    code, *stored_parts = found.parts
    contents = []
    refused = []
    for number, part in enumerate(stored_parts, 1):
        content = _content(code, part, limit)
        contents.append(content)
        if part is not None and content is None:
            refused.append(number)
    return Recovered(code, contents, found.lost_parts, refused)


def _content(code, part, limit):
    """Returns the list of the octets that the machine makes of a stored part, or None if there is none."""
    if code is None or part is None:
        return None
    try:
        return expand_by_machine(list(code), list(part), limit)
    except InvalidCode:
        return None
