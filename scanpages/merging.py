"""Merging: two edit scripts for the same list are joined, or one is rebased over the other."""

from scanpages.edits import check_fit, normalized


def merged(old, first, second):
    """Returns the pair of the merged script of two scripts for the list old, and the list of the conflicts."""
    kept, added = _keeps_and_adds(old, first)
    second_kept, second_added = _keeps_and_adds(old, second)
    steps = []
    conflicts = []
    for gap in range(len(old) + 1):
        own, other = added[gap], second_added[gap]
        if own != () and other != () and own != other:
            conflicts.append((gap, own, other))
        steps.extend(_adding(own))
        if other != own:
            steps.extend(_adding(other))
        if gap < len(old):
            steps.append(("keep" if kept[gap] and second_kept[gap] else "drop", 1))
    return normalized(steps), conflicts


def rebased(old, script, over, *, later=True):
    """Returns the script rebased over the script over, for the list that over makes of the list old."""
    kept, added = _keeps_and_adds(old, script)
    over_kept, over_added = _keeps_and_adds(old, over)
    steps = []
    for gap in range(len(old) + 1):
        own, other = added[gap], over_added[gap]
        # What the other script adds is in the new list already.
        here = [("keep", len(other))] if other != () else []
        if own != other:
            here = here + _adding(own) if later else _adding(own) + here
        steps.extend(here)
        if gap < len(old) and over_kept[gap]:
            steps.append(("keep" if kept[gap] else "drop", 1))
    return normalized(steps)


def _keeps_and_adds(old, script):
    """Returns what a script does with a list: whether it keeps each item, and the tuple that it adds in each gap."""
    check_fit(script, len(old))
    kept = []
    added = [()]
    for kind, what in script:
        if kind == "add":
            added[-1] = (*added[-1], *what)
            continue
        kept.extend([kind == "keep"] * what)
        added.extend([()] * what)
    return kept, added


def _adding(items):
    """Returns the list of the steps that add some items, perhaps none."""
    return [("add", items)] if items != () else []
