"""Shelves: the pages of an archive that are kept, inspected and mended over generations."""

from scanpages.archives import Settings, all_bodies, archive_pages, read_archive
from scanpages.beds import changed, check_bed, laid
from scanpages.errors import InvalidPage
from scanpages.labels import page_label
from scanpages.pages import draw_page
from scanpages.reading import read_scan

# A fresh bed shows so many white rows or columns at each edge of its page.
FRESH_MARGIN = 2


class Shelf:
    """A shelf; beds has for each page its bed, a tuple of tuples of cells, or None."""

    def __init__(self, settings, parts):
        pairs = archive_pages(settings, parts)
        self.settings = Settings(settings.form, settings.archive, settings.group, settings.checks)
        self.first_label = pairs[0][0]
        self.beds = tuple([_fresh_bed(self.settings.form, label, body) for label, body in pairs])

    def __len__(self):
        return len(self.beds)

    def age(self, number, changes):
        """Changes cells of the bed of a page."""
        self._check_number(number)
        if self.beds[number] is None:
            raise InvalidPage("the page has no bed")
        self._put(number, _kept(changed(self.beds[number], changes)))

    def swap(self, number, bed):
        """Replaces the bed of a page by another one, or removes it."""
        self._check_number(number)
        if bed is None:
            self._put(number, None)
            return
        check_bed(bed)
        self._put(number, _kept(bed))

    def _check_number(self, number):
        """Checks that there is a page with this number."""
        if not 0 <= number < len(self):
            raise InvalidPage("there is no page with this number")

    def _put(self, number, bed):
        """Puts a bed that is kept, or None, in the place of the bed of a page."""
        self.beds = (*self.beds[:number], bed, *self.beds[number + 1:])

    def inspect(self):
        """Returns the list that tells for each page whether it passes the inspection."""
        passing = self._passing_bodies()
        return [number in passing for number in range(len(self))]

    def _passing_bodies(self):
        """Returns the dict of the bodies of the pages that pass the inspection, by their numbers."""
        bodies = {}
        for number, bed in enumerate(self.beds):
            if bed is None:
                continue
            pair = read_scan(self.settings.form, _rows(bed))
            if pair is not None and pair[0] == page_label(self.first_label, number):
                bodies[number] = pair[1]
        return bodies

    def mend(self):
        """Mends the shelf, and returns the list of the numbers of the pages whose bed changed."""
        bodies = all_bodies(self.first_label, self._passing_bodies())
        mended = []
        for number in range(len(self)):
            bed = None
            if number in bodies:
                bed = _fresh_bed(self.settings.form, page_label(self.first_label, number), bodies[number])
            mended.append(bed)
        numbers = [number for number, bed in enumerate(mended) if bed != self.beds[number]]
        self.beds = tuple(mended)
        return numbers

    def restored(self):
        """Returns what is put together from the beds of the shelf."""
        beds = [_rows(bed) for bed in self.beds if bed is not None]
        return read_archive(self.settings.form, self.settings.archive, beds)


def _fresh_bed(form, label, body):
    """Returns the fresh bed of a page, as a tuple of tuples."""
    length = form.side + 2 * FRESH_MARGIN
    return _kept(laid(draw_page(form, label, body), 0, length, length, FRESH_MARGIN, FRESH_MARGIN))


def _kept(bed):
    """Returns a bed as a tuple of tuples."""
    return tuple([tuple(row) for row in bed])


def _rows(bed):
    """Returns a bed as a list of lists."""
    return [list(row) for row in bed]
