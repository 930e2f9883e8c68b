"""The changes between two volumes."""

from scanpages.volumes import removed, replaced


def compare(first, second):
    """Returns the list of the changes between two volumes."""
    if first == second:
        return []
    if first[0] != "folder" or second[0] != "folder":
        return [("changed", (), second)]
    before = {name: volume for name, volume in first[1]}
    after = {name: volume for name, volume in second[1]}
    changes = []
    for name in sorted({**before, **after}):
        if name not in after:
            changes.append(("removed", (name,)))
        elif name not in before:
            changes.append(("added", (name,), after[name]))
        else:
            for kind, path, *volume in compare(before[name], after[name]):
                changes.append((kind, (name, *path), *volume))
    return changes


def apply_changes(volume, changes):
    """Returns the volume after a list of changes."""
    result = volume
    for kind, path, *new in changes:
        result = removed(result, path) if kind == "removed" else replaced(result, path, new[0])
    return result
