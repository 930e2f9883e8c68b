"""Edit scripts: the steps that turn one list of integers into another one."""

from scanpages.errors import InvalidScript

# Old lists are compared in blocks of so many items, so that no integer becomes long.
BLOCK = 1024


def patch(old, script):
    """Returns the list that a script makes from the list old."""
    check_fit(script, len(old))
    new = []
    at = 0
    for kind, what in script:
        if kind == "add":
            new.extend(what)
            continue
        if kind == "keep":
            new.extend(old[at:at + what])
        at += what
    return new


def taken_items(script):
    """Returns the number of the items of the old list that a script takes."""
    return sum(_taken_by(step) for step in script)


def _taken_by(step):
    """Returns the number of the items of the old list that a step takes."""
    kind, what = step
    return 0 if kind == "add" else what


def made_items(script):
    """Returns the number of the items of the new list that a script makes."""
    return sum(_made_by(step) for step in script)


def _made_by(step):
    """Returns the number of the items of the new list that a step makes."""
    kind, what = step
    if kind == "add":
        return len(what)
    return 0 if kind == "drop" else what


def check_fit(script, length):
    """Checks that a script fits an old list of this length."""
    if taken_items(script) != length:
        raise InvalidScript("the script takes more or fewer items than the list has")


def normalized(script):
    """Returns the normal form of a script."""
    normal = []
    kept = 0
    dropped = 0
    added = []
    for kind, what in script:
        if kind == "drop":
            dropped += what
        elif kind == "add":
            added.extend(what)
        else:
            if dropped > 0 or added:
                normal.extend(_steps(kept, dropped, added))
                kept = 0
                dropped = 0
                added = []
            kept += what
    return normal + _steps(kept, dropped, added)


def _steps(kept, dropped, added):
    """Returns the steps for kept items and for what is dropped and added behind them."""
    steps = []
    if kept > 0:
        steps.append(("keep", kept))
    if dropped > 0:
        steps.append(("drop", dropped))
    if added:
        steps.append(("add", tuple(added)))
    return steps


def cost(script):
    """Returns the cost of a script."""
    dropped = sum(what for kind, what in script if kind == "drop")
    return dropped + sum(len(what) for kind, what in script if kind == "add")


def diff(old, new):
    """Returns a script in normal form, with the least cost, that turns old into new."""
    start = _equal_items(old, new)
    end = _equal_items(old[start:][::-1], new[start:][::-1])
    between = _changes(old[start:len(old) - end], new[start:len(new) - end])
    return normalized([("keep", start), *between, ("keep", end)])


def _equal_items(first, second):
    """Returns the number of the items at the beginning in which two lists are equal."""
    count = 0
    for one, other in zip(first, second):
        if one != other:
            break
        count += 1
    return count


def _changes(old, new):
    """Returns a script of single items, with the least cost, that turns old into new."""
    blocks = _gain_blocks(old, new)
    steps = []
    row = len(new)
    column = len(old)
    while row > 0 or column > 0:
        if column > 0 and not _is_gain(blocks, row, column):
            steps.append(("drop", 1))
            column -= 1
        elif column == 0 or _is_gain(blocks, row - 1, column):
            row -= 1
            steps.append(("add", (new[row],)))
        else:
            # Each item less on either side costs a common item, so these two are common.
            steps.append(("keep", 1))
            row -= 1
            column -= 1
    return steps[::-1]


def _is_gain(blocks, row, column):
    """Tells whether the last one of the first column old items makes the greatest common length grow in a row."""
    block, place = divmod(column - 1, BLOCK)
    return (blocks[block][row] >> place) & 1 == 0


def _gain_blocks(old, new):
    """Returns a list of rows for each block of old, which tell how the greatest common length grows.

    Row number r is an integer. Its binary digit number c is 0 if the first r items of new have a longer list
    in common with the first c + 1 items of old than with the first c, which are counted through all blocks.
    """
    blocks = []
    carries = [0] * len(new)
    for start in range(0, len(old), BLOCK):
        rows, carries = _gain_rows(old[start:start + BLOCK], new, carries)
        blocks.append(rows)
    return blocks


def _gain_rows(block, new, carries):
    """Returns the rows of a block, and the carries that its additions hand to the next block.

    An addition finds the gains of a row for all old items at once: among the places from one gain up to the next
    one, its carry moves the gain to the first place with the new item (Crochemore and others, 2001).
    """
    places = {}
    for place, item in enumerate(block):
        places[item] = places.get(item, 0) | (1 << place)
    full = (1 << len(block)) - 1
    row = full
    rows = [row]
    carried = []
    for item, carry in zip(new, carries):
        found = row & places.get(item, 0)
        total = row + found + carry
        carried.append(total >> len(block))
        row = (total & full) | (row - found)
        rows.append(row)
    return rows, carried


def inverted(old, script):
    """Returns the inverse of a script that fits the list old."""
    check_fit(script, len(old))
    steps = []
    at = 0
    for kind, what in script:
        if kind == "add":
            steps.append(("drop", len(what)))
            continue
        if kind == "drop":
            steps.append(("add", tuple(old[at:at + what])))
        else:
            steps.append(("keep", what))
        at += what
    return normalized(steps)


def squashed(first, second):
    """Returns the script in normal form that does what the first and then the second script does."""
    check_fit(second, made_items(first))
    parts = _split(first, [_taken_by(step) for step in second])
    steps = []
    for step, part in zip(second, parts):
        if step[0] == "add":
            steps.append(step)
        elif step[0] == "keep":
            steps.extend(part)
        else:
            steps.append(("drop", taken_items(part)))
    return normalized(steps + parts[-1])


def _split(script, counts):
    """Returns the list of the parts of a script, lists of steps, that make so many items each, and of what is left."""
    parts = []
    waiting = list(script)[::-1]
    for count in counts:
        part = []
        missing = count
        while missing > 0:
            step = waiting.pop()
            if _made_by(step) > missing:
                step, later = _cut(step, missing)
                waiting.append(later)
            part.append(step)
            missing -= _made_by(step)
        parts.append(part)
    return [*parts, waiting[::-1]]


def _cut(step, count):
    """Returns the two steps into which a keep or add step is cut after count items."""
    kind, what = step
    if kind == "add":
        return ("add", what[:count]), ("add", what[count:])
    return ("keep", count), ("keep", what - count)
