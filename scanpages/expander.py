"""The code that undoes the compression."""

from scanpages.assembly import assemble
from scanpages.machine import run

STEPS_FOR_OCTET = 12

# Register 0 counts the octets that are still to be written, register 1 holds the octet that is written,
# register 2 the distance of a copy, and registers 3 to 5 hold 1, the first octet of copies, and what such an octet
# has more than its copy has octets. Back fails by itself if the distance is wrong.
EXPANDER = """
    set 3 1
    set 4 128
    set 5 125
step:
    read 0 end
    copy 1 0
    less 1 4
    zero 1 distance
    add 0 3
plain:
    read 1 broken
    write 1
    sub 0 3
    zero 0 step
    jump plain
distance:
    read 2 broken
    sub 0 5
again:
    back 1 2
    write 1
    sub 0 3
    zero 0 step
    jump again
end:
    halt
broken:
    fail
"""


def expander_code():
    """Returns the list of the octets of the code that expands packed lists."""
    return assemble(EXPANDER)


def expand_by_machine(code, packed, limit):
    """Returns the list of the output of a code for a packed list, or None if there is none within the limit."""
    result = run(code, packed, STEPS_FOR_OCTET * (len(packed) + limit + 1))
    if result.word != "done" or len(result.output) > limit:
        return None
    return list(result.output)
