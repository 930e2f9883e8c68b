"""Collections: histories with names, and a catalogue of them."""

from scanpages.encoding import decode_volume, encode_volume
from scanpages.errors import EncodingError
from scanpages.restoring import publish, restore
from scanpages.versions import copied_history, decode_history, encode_history

HEADER = ("name", "versions", "octets")


def catalogue(pairs):
    """Returns the catalogue of a collection."""
    rows = []
    for name, history in pairs:
        last = history.version(len(history) - 1)
        rows.append((name, str(len(history)), str(len(last))))
    return ("table", HEADER, tuple(rows))


def publish_collection(settings, pairs):
    """Returns the pair of the primer and the list of the drawn pages of a collection."""
    contents = [encode_volume(catalogue(pairs))]
    return publish(settings, contents + [encode_history(history) for _, history in pairs])


class Opened:
    """An opened collection: the catalogue, the histories with their names, and the numbers of the lost parts."""

    def __init__(self, catalogue, histories, lost):
        self.catalogue = catalogue
        self.histories = tuple([(name, _copied(history)) for name, history in histories])
        self.lost = tuple(lost)


def _copied(history):
    """Returns a copy of a history, or None for None."""
    return None if history is None else copied_history(history)


def open_collection(primer, beds, limit):
    """Returns the collection that is restored from a primer and a list of beds."""
    found = restore(primer, beds, limit)
    if found.contents == ():
        return Opened(None, (), found.lost)
    first, *others = found.contents
    table = _read(decode_volume, first)
    histories = [_read(decode_history, content) for content in others]
    return Opened(table, list(zip(_names(table, len(histories)), histories)), found.lost)


def _read(decoder, content):
    """Returns what a function reads from the octets of a content, or None if there is none."""
    if content is None:
        return None
    try:
        return decoder(list(content))
    except EncodingError:
        return None


def _names(table, count):
    """Returns the list of the names of so many histories, with None for each that the catalogue does not tell."""
    rows = table[2] if table is not None and table[0] == "table" else ()
    return [rows[number][0] if number < len(rows) else None for number in range(count)]
