"""Groups: check pages, from which missing pages are computed."""

from scanpages.coding import LONGEST, extended
from scanpages.errors import InvalidSymbol
from scanpages.field import is_symbol


def check_bodies(bodies, checks):
    """Returns the list of the bodies of the check pages of a group."""
    count = len(bodies)
    if count == 0 or checks < 0 or count + checks > LONGEST:
        raise InvalidSymbol("there is no group of this size")
    for body in bodies:
        if not all(is_symbol(symbol) for symbol in body):
            raise InvalidSymbol("an item of a body is no symbol")
    return extended(list(range(count)), bodies, list(range(count, count + checks)))


def complete(bodies, count):
    """Returns the list of the bodies of the data pages of a group, with None for those that cannot be computed."""
    if not 1 <= count <= len(bodies) <= LONGEST:
        raise InvalidSymbol("there is no group of this size")
    data = [None if body is None else list(body) for body in bodies[:count]]
    points = [at for at, body in enumerate(bodies) if body is not None][:count]
    if len(points) < count:
        return data
    missing = [at for at in range(count) if data[at] is None]
    computed = extended(points, [bodies[at] for at in points], missing)
    for at, body in zip(missing, computed):
        data[at] = body
    return data
