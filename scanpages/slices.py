"""Slices: the pieces of the parts of an archive, and the bodies that carry them."""

from scanpages.errors import InvalidArchive
from scanpages.labels import two_symbols, two_symbols_integer
from scanpages.pages import check_body

MOST_PARTS = 99
MOST_SLICES = 255
GREATEST_OCTET = 255
# A body begins with the four integers of the head.
HEAD_INTEGERS = 4


def is_octet(integer):
    """Tells whether an integer is an octet."""
    return 0 <= integer <= GREATEST_OCTET


def slice_count(length, capacity):
    """Returns the number of the slices of a part with so many octets."""
    # A part without octets has one slice, too.
    return max(1, (length + capacity - 1) // capacity)


def cut(octets, capacity):
    """Returns the list of the slices of a part."""
    starts = [number * capacity for number in range(slice_count(len(octets), capacity))]
    return [octets[start:start + capacity] for start in starts]


def slice_body(form, head, octets):
    """Returns the body of the slice with a head and some octets."""
    if not _is_slice(form, head, len(octets)) or not all(is_octet(octet) for octet in octets):
        raise InvalidArchive("there is no slice like this")
    body = []
    for integer in [*head, len(octets), *octets]:
        body.extend(two_symbols(integer))
    return body + [0] * (form.body_size - len(body))


def body_slice(form, body):
    """Returns the pair of the head and the list of the octets of the slice with a body, or None if there is none."""
    check_body(form, body)
    integers = [two_symbols_integer(body[start:start + 2]) for start in range(0, len(body), 2)]
    head = tuple(integers[:HEAD_INTEGERS])
    count = integers[HEAD_INTEGERS]
    rest = integers[HEAD_INTEGERS + 1:]
    if not _is_slice(form, head, count) or any(integer != 0 for integer in rest[count:]):
        return None
    return head, rest[:count]


def _is_slice(form, head, count):
    """Tells whether there is a slice with this head and so many octets."""
    part, parts, number, slices = head
    if not 0 <= part < parts <= MOST_PARTS or not 0 <= number < slices <= MOST_SLICES:
        return False
    return count == form.capacity or (count < form.capacity and number == slices - 1)
