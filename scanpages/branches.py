"""Branches: histories that begin with the same version are merged."""

from scanpages.edits import patch, squashed
from scanpages.errors import NoSuchVersion
from scanpages.merging import merged
from scanpages.versions import copied_history


def merge_histories(first, second):
    """Returns the pair of the merged history and the list of the conflicts."""
    common = _last_common(first, second)
    old = first.version(common)
    own = _squash(first.scripts[common:], len(old))
    other = _squash(second.scripts[common:], len(old))
    script, conflicts = merged(old, own, other)
    history = copied_history(first)
    history.record(patch(old, script))
    return history, conflicts


def _last_common(first, second):
    """Returns the number of the last common version of two histories."""
    octets = list(first.first)
    others = list(second.first)
    if octets != others:
        raise NoSuchVersion("the histories are no branches of each other")
    common = 0
    for script, other_script in zip(first.scripts, second.scripts):
        octets = patch(octets, script)
        others = patch(others, other_script)
        if octets != others:
            break
        common += 1
    return common


def _squash(scripts, count):
    """Returns the squash of scripts that follow each other, the first of which is for a list of so many items."""
    squash = [("keep", count)] if count > 0 else []
    for script in scripts:
        squash = squashed(squash, script)
    return squash
