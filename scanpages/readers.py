"""Reading lists of octets from left to right."""

from scanpages.errors import EncodingError
from scanpages.octets import is_text_code, octets_text, read_number


class Reader:
    """Reads a list of octets; at is the index of the first octet that is not yet read."""

    def __init__(self, octets):
        self.octets = tuple(octets)
        self.at = 0

    def octet(self):
        """Reads one octet."""
        return self.several(1)[0]

    def several(self, count):
        """Reads count octets and returns them as a tuple."""
        start = self.at
        if start + count > len(self.octets):
            raise EncodingError(len(self.octets))
        self.at = start + count
        return self.octets[start:self.at]

    def number(self):
        """Reads a number."""
        value, self.at = read_number(self.octets, self.at)
        return value

    def positive(self):
        """Reads a number that must not be 0."""
        start = self.at
        value = self.number()
        if value == 0:
            raise EncodingError(start)
        return value

    def text(self):
        """Reads the number of the characters of a text, and the text."""
        count = self.number()
        # A wrong octet is met before the end of the list, if there are both.
        for at in range(self.at, min(self.at + count, len(self.octets))):
            if not is_text_code(self.octets[at]):
                raise EncodingError(at)
        return octets_text(self.several(count))

    def finish(self):
        """Checks that nothing is left to read."""
        if self.at < len(self.octets):
            raise EncodingError(self.at)
