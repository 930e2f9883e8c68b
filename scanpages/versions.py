"""Histories: lists of octets that change from version to version."""

from scanpages.edits import diff, made_items, patch
from scanpages.errors import EncodingError, NoSuchVersion
from scanpages.octets import number_octets
from scanpages.readers import Reader

# The place of a kind is the octet that stands for it.
KINDS = ("keep", "drop", "add")


class History:
    """A history; first is version 0, and scripts has the steps that lead to each later version."""

    def __init__(self, octets):
        self.first = tuple(octets)
        self.scripts = ()

    def __len__(self):
        return len([self.first, *self.scripts])

    def record(self, octets):
        """Adds a version at the end."""
        script = diff(self.version(len(self) - 1), list(octets))
        self.scripts = (*self.scripts, tuple(script))

    def version(self, number):
        """Returns the list of the octets of a version."""
        if not 0 <= number < len(self):
            raise NoSuchVersion("there is no version with this number")
        octets = list(self.first)
        for script in self.scripts[:number]:
            octets = patch(octets, script)
        return octets

    def shorten(self, count):
        """Forgets the first count versions."""
        first = self.version(count)
        self.first = tuple(first)
        self.scripts = self.scripts[count:]


def copied_history(history):
    """Returns a history with the same versions, which can be changed without the other one."""
    copied = History(history.first)
    copied.scripts = history.scripts
    return copied


def encode_history(history):
    """Returns the list of the octets of a history."""
    octets = number_octets(len(history)) + number_octets(len(history.first))
    octets.extend(history.first)
    for script in history.scripts:
        octets.extend(number_octets(len(script)))
        for step in script:
            octets.extend(_step_octets(step))
    return octets


def _step_octets(step):
    """Returns the list of the octets of a step."""
    kind, what = step
    octet = KINDS.index(kind)
    if kind == "add":
        return [octet, *number_octets(len(what)), *what]
    return [octet, *number_octets(what)]


def decode_history(octets):
    """Returns the history with these octets."""
    reader = HistoryReader(octets)
    count = reader.positive()
    history = History(reader.several(reader.number()))
    scripts = []
    length = len(history.first)
    for _ in range(count - 1):
        script = reader.script(length)
        scripts.append(script)
        length = made_items(script)
    reader.finish()
    history.scripts = tuple(scripts)
    return history


class HistoryReader(Reader):
    """Reads the scripts of a history."""

    def script(self, length):
        """Reads a script for an old list of this length and returns the tuple of its steps."""
        steps = []
        before = ""
        left = length
        for _ in range(self.number()):
            kind, what = self.step(before, left)
            if kind != "add":
                left -= what
            steps.append((kind, what))
            before = kind
        if left > 0:
            raise EncodingError(self.at)
        return tuple(steps)

    def step(self, before, left):
        """Reads a step behind one of the kind before, where so many old items are left."""
        start = self.at
        octet = self.octet()
        if octet >= len(KINDS):
            raise EncodingError(start)
        kind = KINDS[octet]
        if kind == before or (kind == "drop" and before == "add"):
            raise EncodingError(start)
        count = self.positive()
        if kind == "add":
            return kind, self.several(count)
        if count > left:
            raise EncodingError(start)
        return kind, count
