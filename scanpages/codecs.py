"""Codecs: ways to store contents, each with a code that undoes it."""

from scanpages.assembly import assemble
from scanpages.compression import pack
from scanpages.errors import InvalidArchive, InvalidCode
from scanpages.expander import expander_code
from scanpages.machine import OCTETS
from scanpages.restoring import print_library
from scanpages.slices import is_octet

PLAIN = """
next:
    read 0 end
    write 0
    jump next
end:
    halt
"""

# Register 1 holds the sum of what was read so far; writing takes it modulo 256.
STEPS = """
next:
    read 0 end
    add 1 0
    write 1
    jump next
end:
    halt
"""


def codec_code(name):
    """Returns the octets of the code of a codec."""
    if name == "plain":
        return assemble(PLAIN)
    if name == "packed":
        return expander_code()
    if name == "steps":
        return assemble(STEPS)
    raise InvalidCode("there is no codec with this name")


def stored(name, octets):
    """Returns the list of the octets by which a codec stores a content."""
    if name == "plain":
        return list(octets)
    if name == "packed":
        return pack(octets)
    if name == "steps":
        return [(octet - before) % OCTETS for before, octet in zip([0, *octets], octets)]
    raise InvalidCode("there is no codec with this name")


def publish_with(settings, name, contents):
    """Returns the pair of the primer and the list of the drawn pages of the library of contents with a codec."""
    code = codec_code(name)
    # Octets out of range would be lost in steps, which are taken modulo 256.
    if not all(is_octet(octet) for content in contents for octet in content):
        raise InvalidArchive("a content does not consist of octets")
    return print_library(settings, [code, *[stored(name, content) for content in contents]])
