"""Packed lists: octets with copies of what stands shortly before."""

from scanpages.errors import PackedError, TooLong

# An octet below this one begins plain octets, the others begin copies.
FIRST_COPY = 128
MOST_PLAIN = 128
SHORTEST_COPY = 3
LONGEST_COPY = 130
FARTHEST_COPY = 255


def pack(octets):
    """Returns a packed list whose expansion is the given list.

    A copy takes two octets and begins new plain octets behind it, which takes one more. So copies of three octets
    and more never make the packed list longer than plain octets alone would.
    """
    earlier = _earlier_places(octets)
    packed = []
    plain = 0
    at = 0
    while at < len(octets):
        length, distance = _longest_copy(octets, at, earlier)
        if length < SHORTEST_COPY:
            at += 1
            continue
        packed.extend(_plain_steps(octets[plain:at]))
        packed.extend([FIRST_COPY + length - SHORTEST_COPY, distance])
        at += length
        plain = at
    return packed + _plain_steps(octets[plain:])


def _earlier_places(octets):
    """Returns for each place the last place before it at which the same three octets stand, or -1."""
    last = {}
    earlier = []
    for at in range(len(octets)):
        beginning = tuple(octets[at:at + SHORTEST_COPY])
        earlier.append(last.get(beginning, -1))
        last[beginning] = at
    return earlier


def _longest_copy(octets, at, earlier):
    """Returns the length and the distance of the longest copy that can stand at a place."""
    most = min(LONGEST_COPY, len(octets) - at)
    best = 0
    distance = 0
    place = earlier[at]
    while place >= 0 and at - place <= FARTHEST_COPY and best < most:
        length = SHORTEST_COPY
        while length < most and octets[place + length] == octets[at + length]:
            length += 1
        if length > best:
            best = length
            distance = at - place
        place = earlier[place]
    return best, distance


def _plain_steps(octets):
    """Returns the steps that add the octets as they are."""
    packed = []
    for start in range(0, len(octets), MOST_PLAIN):
        piece = octets[start:start + MOST_PLAIN]
        packed.append(len(piece) - 1)
        packed.extend(piece)
    return packed


def expand(packed, limit):
    """Returns the expansion of a packed list."""
    expansion = []
    at = 0
    while at < len(packed):
        octet = packed[at]
        size = octet + 2 if octet < FIRST_COPY else 2
        if at + size > len(packed):
            raise PackedError(len(packed))
        if octet < FIRST_COPY:
            expansion.extend(packed[at + 1:at + size])
        else:
            distance = packed[at + 1]
            if not 1 <= distance <= len(expansion):
                raise PackedError(at + 1)
            # One by one, because a copy may reach octets that it has added itself.
            for _ in range(octet - FIRST_COPY + SHORTEST_COPY):
                expansion.append(expansion[len(expansion) - distance])
        if len(expansion) > limit:
            raise TooLong("the expansion has more octets than the limit")
        at += size
    return expansion
