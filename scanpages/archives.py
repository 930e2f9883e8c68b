"""Archives: parts as pages with labels, and the parts that are put together from such pages."""

from scanpages.errors import InvalidArchive, TooManyPages
from scanpages.formats import Format
from scanpages.groups import check_bodies, complete
from scanpages.joining import read_scans
from scanpages.labels import GREATEST_ARCHIVE, MOST_PAGES
from scanpages.labels import all_pages, check_label, group_count, group_pages, is_group, page_label
from scanpages.pages import draw_page
from scanpages.slices import MOST_PARTS, MOST_SLICES, body_slice, cut, is_octet, slice_body

MOST_OCTETS = 4000


class Settings:
    """The settings of an archive: a format, the archive number, the group size and the group checks."""

    def __init__(self, form, archive, group, checks):
        if not 0 <= archive <= GREATEST_ARCHIVE or not is_group(group, checks):
            raise InvalidArchive("there is no archive with these settings")
        self.form = Format(form.side, form.checks)
        self.archive = archive
        self.group = group
        self.checks = checks


class Restored:
    """What was put together: the parts, the number of all pages, and the numbers of the missing pages."""

    def __init__(self, parts, pages, missing):
        self.parts = None
        if parts is not None:
            self.parts = tuple([None if part is None else tuple(part) for part in parts])
        self.pages = pages
        self.missing = tuple(missing)

    @property
    def lost_parts(self):
        """The tuple of the numbers of the lost parts."""
        if self.parts is None:
            return ()
        return tuple([number for number, part in enumerate(self.parts) if part is None])


def archive_pages(settings, parts):
    """Returns the list of the pairs of a label and a body of all pages of an archive."""
    _check_parts(parts)
    data = _data_bodies(settings.form, parts)
    if all_pages(len(data), settings.group, settings.checks) > MOST_PAGES:
        raise TooManyPages("the archive has too many pages")
    bodies = list(data)
    for start in range(0, len(data), settings.group):
        bodies.extend(check_bodies(data[start:start + settings.group], settings.checks))
    label = (settings.archive, 0, len(data), settings.group, settings.checks)
    return [(page_label(label, number), body) for number, body in enumerate(bodies)]


def _check_parts(parts):
    """Checks that an archive may have these parts."""
    if not 1 <= len(parts) <= MOST_PARTS:
        raise InvalidArchive("there is no archive with so many parts")
    for part in parts:
        if len(part) > MOST_OCTETS or not all(is_octet(octet) for octet in part):
            raise InvalidArchive("a part is too long or does not consist of octets")


def _data_bodies(form, parts):
    """Returns the list of the bodies of the data pages of an archive."""
    bodies = []
    for number, part in enumerate(parts):
        slices = cut(part, form.capacity)
        if len(slices) > MOST_SLICES:
            raise TooManyPages("a part has too many slices")
        for at, octets in enumerate(slices):
            bodies.append(slice_body(form, (number, len(parts), at, len(slices)), octets))
    return bodies


def put_together(form, archive, pairs):
    """Returns what is put together from pairs of a label and a body."""
    label, bodies = pages_there(archive, pairs)
    if label is None:
        return Restored(None, 0, ())
    pages = check_label(label)
    missing = [number for number in range(pages) if number not in bodies]
    known = [body for _, data in _group_data(label, bodies) for body in data if body is not None]
    return Restored(_whole_parts(_known_slices(form, known)), pages, missing)


def pages_there(archive, pairs):
    """Returns a label of an archive, and the dict of the bodies of its pages that are there, by their numbers.

    The label is the one of the first pair of the archive, or None if there is no such pair.
    """
    label = None
    bodies = {}
    for other, body in pairs:
        if other[0] != archive:
            continue
        if label is None:
            label = other
        if other[2:] == label[2:]:
            bodies.setdefault(other[1], body)
    return label, bodies


def _group_data(label, bodies):
    """Returns, for each group, the pair of the numbers of its pages and the list of the bodies of its data pages.

    In the list stands None for each data page that is not there and cannot be computed.
    """
    _, _, data_pages, size, checks = label
    found = []
    for group in range(group_count(data_pages, size)):
        numbers = group_pages(label, group)
        found.append((numbers, complete([bodies.get(number) for number in numbers], len(numbers) - checks)))
    return found


def all_bodies(label, bodies):
    """Returns the dict of the bodies of the pages that are there or can be computed, by their numbers.

    Where a group has enough pages, its check pages are computed from its data pages, also if they are there.
    """
    found = {}
    for numbers, data in _group_data(label, bodies):
        if None in data:
            known = [bodies.get(number) for number in numbers]
        else:
            known = data + check_bodies(data, label[4])
        for number, body in zip(numbers, known):
            if body is not None:
                found[number] = body
    return found


def _known_slices(form, bodies):
    """Returns the list of the slices with these bodies that say the same number of parts as the first one."""
    slices = []
    for body in bodies:
        found = body_slice(form, body)
        if found is not None and (slices == [] or found[0][1] == slices[0][0][1]):
            slices.append(found)
    return slices


def _whole_parts(slices):
    """Returns the list of the parts, with None for each that is lost, or None if there is no slice."""
    if slices == []:
        return None
    parts = slices[0][0][1]
    return [_whole_part([found for found in slices if found[0][0] == part]) for part in range(parts)]


def _whole_part(slices):
    """Returns the list of the octets of the part with these slices, or None if one is missing."""
    if slices == []:
        return None
    count = slices[0][0][3]
    pieces = {}
    for head, octets in slices:
        if head[3] == count:
            pieces.setdefault(head[2], octets)
    if len(pieces) < count:
        return None
    return [octet for number in range(count) for octet in pieces[number]]


def print_archive(settings, parts):
    """Returns the list of the drawn pages of an archive."""
    return [draw_page(settings.form, label, body) for label, body in archive_pages(settings, parts)]


def read_archive(form, archive, beds):
    """Returns what is put together from the scans on a list of beds."""
    return put_together(form, archive, read_scans(form, beds))
