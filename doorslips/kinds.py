"""Stage 2: what the entries that come make of a content."""

from doorslips.houses import contents


def after(house, content, comers):
    """Return what the comers, one after the other, make of a content."""
    sizes, _, kinds = house
    cells = list(content)
    for comer in comers:
        for step in kinds[comer]:
            _do(sizes, cells, step)
    return tuple(cells)


def table(house):
    """Return the ascending tuple of the rows (content, kind, what the kind makes of it)."""
    rows = []
    for content in contents(house):
        for kind in range(len(house[2])):
            rows.append((content, kind, after(house, content, (kind,))))
    return tuple(rows)


def _do(sizes, cells, step):
    """Do a step to the list of the cells' values."""
    word, cell = step[0], step[1]
    if word == "when":
        if step[2] <= cells[cell] <= step[3]:
            _do(sizes, cells, step[4])
    elif word == "swap":
        other = step[2]
        cells[cell], cells[other] = cells[other], cells[cell]
    elif word == "copy":
        cells[cell] = min(cells[step[2]], sizes[cell] - 1)
    else:
        cells[cell] = _changed(word, sizes[cell], cells[cell], step[2])


def _changed(word, size, value, number):
    """Return what a step that looks at one cell alone makes of its value."""
    if word == "add":
        return (value + number) % size
    if word == "up":
        return min(value + number, size - 1)
    if word == "raise":
        return max(value, number)
    if word == "lower":
        return min(value, number)
    return number
