"""Volumes: trees of texts and tables, and the places in them."""

from scanpages.errors import NoSuchPath
from scanpages.octets import is_text

GREATEST_DEPTH = 8
GREATEST_SIZE = 200
LONGEST_NAME = 20
NAME_CHARACTERS = "abcdefghijklmnopqrstuvwxyz0123456789-."


def volume_fault(volume):
    """Returns the path of the fault of a volume, or None if the volume is sound."""
    depth = 0
    size = 0
    # A folder puts its entries here in reverse, so that they are taken in their order.
    waiting = [((), volume)]
    while waiting:
        path, place = waiting.pop()
        if _is_faulty(place):
            return path
        depth = max(depth, len(path) + 1)
        size += 1
        waiting.extend(_inner_places(path, place)[::-1])
    if depth > GREATEST_DEPTH or size > GREATEST_SIZE:
        return ()
    return None


def is_name(string):
    """Tells whether a string is a name."""
    return 1 <= len(string) <= LONGEST_NAME and all(character in NAME_CHARACTERS for character in string)


def _is_faulty(volume):
    """Tells whether a volume is faulty by itself."""
    kind = volume[0]
    if kind == "text":
        return not is_text(volume[1])
    if kind == "table":
        return not _is_table(volume[1], volume[2])
    return not _is_in_order([name for name, _ in volume[1]])


def _is_table(header, rows):
    """Tells whether a header and rows make a table."""
    if len(header) == 0 or any(len(row) != len(header) for row in rows):
        return False
    return all(is_text(text) for row in (header, *rows) for text in row)


def _is_in_order(names):
    """Tells whether all strings are names and ascend strictly."""
    ascends = all(names[at - 1] < names[at] for at in range(1, len(names)))
    return ascends and all(is_name(name) for name in names)


def _inner_places(path, volume):
    """Returns the list of the paths and volumes of the entries of a folder; a leaf has none."""
    if volume[0] != "folder":
        return []
    return [((*path, name), inner) for name, inner in volume[1]]


def leaves(volume):
    """Returns the list of the pairs of a path and a leaf, for all leaves of a volume."""
    found = []
    waiting = [((), volume)]
    while waiting:
        path, place = waiting.pop()
        if place[0] != "folder":
            found.append((path, place))
        waiting.extend(_inner_places(path, place)[::-1])
    return found


def lookup(volume, path):
    """Returns the volume to which a path leads."""
    place = volume
    for name in path:
        entries = _entries(place)
        place = entries[_entry_index(entries, name)][1]
    return place


def replaced(volume, path, new):
    """Returns the volume with new in the place to which a path leads."""
    folders = [lookup(volume, path[:length]) for length in range(len(path))]
    result = new
    for folder, name in reversed(list(zip(folders, path))):
        result = ("folder", _with_entry(_entries(folder), name, result))
    return result


def removed(volume, path):
    """Returns the volume without the entry to which a path leads."""
    if len(path) == 0:
        raise NoSuchPath("the whole volume cannot be removed")
    parent = path[:-1]
    entries = _entries(lookup(volume, parent))
    at = _entry_index(entries, path[-1])
    return replaced(volume, parent, ("folder", entries[:at] + entries[at + 1:]))


def _entries(volume):
    """Returns the entries of a folder."""
    if volume[0] != "folder":
        raise NoSuchPath("a path leads into a leaf")
    return volume[1]


def _entry_index(entries, name):
    """Returns the index of the entry with a name."""
    for at, entry in enumerate(entries):
        if entry[0] == name:
            return at
    raise NoSuchPath(f"there is no entry {name}")


def _with_entry(entries, name, volume):
    """Returns the entries with a volume under a name, instead of an entry of this name if there is one."""
    for at, entry in enumerate(entries):
        if entry[0] == name:
            return (*entries[:at], (name, volume), *entries[at + 1:])
    for at, entry in enumerate(entries):
        if entry[0] > name:
            return (*entries[:at], (name, volume), *entries[at:])
    return (*entries, (name, volume))


def gathered(pairs):
    """Returns the volume with exactly these leaves, given as pairs of a path and a leaf."""
    places = sorted(pairs, key=lambda pair: pair[0])
    _check_paths([path for path, _ in places])
    longest = max([len(path) for path, _ in places])
    for length in range(longest, 0, -1):
        places = _folded(places, length)
    return places[0][1]


def _check_paths(paths):
    """Checks that there is a path, and that none of the ascending paths begins with another one."""
    if len(paths) == 0:
        raise NoSuchPath("there are no leaves")
    # Between a path and those that begin with it no other paths stand, so neighbours are enough.
    for before, path in zip(paths, paths[1:]):
        if path[:len(before)] == before:
            raise NoSuchPath("a path begins with another one")


def _folded(places, length):
    """Returns the ascending places, those with paths of this length put into folders.

    No place has a longer path. So the entries of a folder are neighbours.
    """
    folded = []
    for path, volume in places:
        if len(path) < length:
            folded.append((path, volume))
            continue
        parent = path[:-1]
        entries = ()
        if folded and folded[-1][0] == parent:
            entries = folded.pop()[1][1]
        folded.append((parent, ("folder", (*entries, (path[-1], volume)))))
    return folded
