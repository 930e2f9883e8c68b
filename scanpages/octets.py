"""Numbers and texts as octets."""

from scanpages.errors import EncodingError, InvalidNumber, InvalidText

GREATEST_NUMBER = 34359738367
MOST_DIGITS = 5
BASE = 128

LINE_FEED = 10
SPACE = 32
PERCENT = 37
TILDE = 126
# The percent sign is missing between the two rows.
FROM_SPACE = " !\"#$"
BEHIND_PERCENT = "&'()*+,-./0123456789:;<=>?@ABCDEFGHIJKLMNOPQRSTUVWXYZ[\\]^_`abcdefghijklmnopqrstuvwxyz{|}~"


def number_octets(number):
    """Returns the list of the octets of a number."""
    if not 0 <= number <= GREATEST_NUMBER:
        raise InvalidNumber(f"the number is not from 0 to {GREATEST_NUMBER}")
    octets = []
    rest = number
    while rest >= BASE:
        octets.append(rest % BASE + BASE)
        rest = rest // BASE
    octets.append(rest)
    return octets


def read_number(octets, start):
    """Returns the number that begins at an index, and the index after its last octet."""
    number = 0
    weight = 1
    for at in range(start, start + MOST_DIGITS):
        if at >= len(octets):
            raise EncodingError(len(octets))
        octet = octets[at]
        if octet < BASE:
            if octet == 0 and at > start:
                raise EncodingError(at)
            return number + octet * weight, at + 1
        number += (octet - BASE) * weight
        weight *= BASE
    raise EncodingError(start + MOST_DIGITS - 1)


def is_text_code(code):
    """Tells whether an integer is the code of a character that a text may contain."""
    return code == LINE_FEED or (SPACE <= code <= TILDE and code != PERCENT)


def is_text(string):
    """Tells whether all characters of a string are allowed in a text."""
    return all(is_text_code(ord(character)) for character in string)


def text_octets(text):
    """Returns the list of the octets of a text."""
    if not is_text(text):
        raise InvalidText("a character is not allowed in a text")
    return [ord(character) for character in text]


def octets_text(octets):
    """Returns the text with these octets."""
    return "".join([_character(octet) for octet in octets])


def _character(code):
    """Returns the character with a code."""
    if not is_text_code(code):
        raise InvalidText("an octet is not the code of an allowed character")
    if code == LINE_FEED:
        return "\n"
    if code < PERCENT:
        return FROM_SPACE[code - SPACE]
    return BEHIND_PERCENT[code - PERCENT - 1]
