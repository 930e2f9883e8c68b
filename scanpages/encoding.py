"""Volumes as octets."""

from scanpages.errors import EncodingError, InvalidVolume
from scanpages.octets import number_octets, text_octets
from scanpages.readers import Reader
from scanpages.volumes import GREATEST_DEPTH, GREATEST_SIZE, is_name, volume_fault

TEXT = 1
TABLE = 2
FOLDER = 3


def encode_volume(volume):
    """Returns the list of the octets of a volume."""
    fault = volume_fault(volume)
    if fault is not None:
        raise InvalidVolume(fault)
    return _volume_octets(volume)


def _volume_octets(volume):
    """Returns the list of the octets of a sound volume."""
    kind = volume[0]
    if kind == "text":
        return [TEXT, *_counted_text(volume[1])]
    if kind == "table":
        return [TABLE, *_table_octets(volume[1], volume[2])]
    octets = [FOLDER, *number_octets(len(volume[1]))]
    for name, inner in volume[1]:
        octets.extend(_counted_text(name))
        octets.extend(_volume_octets(inner))
    return octets


def _table_octets(header, rows):
    """Returns the list of the octets of a header and rows."""
    octets = number_octets(len(header))
    for text in header:
        octets.extend(_counted_text(text))
    octets.extend(number_octets(len(rows)))
    for row in rows:
        for text in row:
            octets.extend(_counted_text(text))
    return octets


def _counted_text(text):
    """Returns the list of the octets of the length of a text and of the text."""
    return number_octets(len(text)) + text_octets(text)


def decode_volume(octets):
    """Returns the volume with these octets."""
    reader = VolumeReader(octets)
    volume = reader.volume(0)
    reader.finish()
    return volume


class VolumeReader(Reader):
    """Reads volumes; begun is the number of the volumes that have begun."""

    def __init__(self, octets):
        super().__init__(octets)
        self.begun = 0

    def volume(self, around):
        """Reads a volume that is inside of so many folders."""
        start = self.at
        kind = self.octet()
        if kind not in (TEXT, TABLE, FOLDER) or around >= GREATEST_DEPTH or self.begun >= GREATEST_SIZE:
            raise EncodingError(start)
        self.begun += 1
        if kind == TEXT:
            return ("text", self.text())
        if kind == TABLE:
            return self.table()
        return self.folder(around)

    def table(self):
        """Reads the header and the rows of a table."""
        width = self.positive()
        header = self.texts(width)
        rows = [self.texts(width) for _ in range(self.number())]
        return ("table", header, tuple(rows))

    def texts(self, count):
        """Reads count texts and returns them as a tuple."""
        return tuple([self.text() for _ in range(count)])

    def folder(self, around):
        """Reads the entries of a folder that is inside of so many folders."""
        entries = []
        before = ""
        for _ in range(self.number()):
            name = self.name_after(before)
            entries.append((name, self.volume(around + 1)))
            before = name
        return ("folder", tuple(entries))

    def name_after(self, before):
        """Reads a name that is greater than the name before it."""
        start = self.at
        name = self.text()
        if not is_name(name) or name <= before:
            raise EncodingError(start)
        return name
