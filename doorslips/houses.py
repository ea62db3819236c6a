"""Stage 1: houses, the contents of their cells, and the form of their kinds."""

from doorslips.errors import InvalidHouse
from doorslips.forms import is_integer, is_tuple

MOST_CELLS = 3
MOST_VALUES = 8
MOST_CONTENTS = 8
MOST_KINDS = 4
MOST_STEPS = 6


def require_house(value):
    """Return the value if it is a house; raise InvalidHouse with the first wrong part."""
    if not is_tuple(value, 3, 3) or not is_tuple(value[2], 1, MOST_KINDS):
        raise InvalidHouse(None)
    sizes, begin, kinds = value
    if not are_sizes(sizes):
        raise InvalidHouse(("sizes",))
    if not is_content(sizes, begin):
        raise InvalidHouse(("begin",))
    for index, kind in enumerate(kinds):
        if not is_kind(sizes, kind):
            raise InvalidHouse(("kind", index))
    return value


def contents(house):
    """Return the ascending tuple of all contents of a house."""
    rows = [()]
    for size in house[0]:
        rows = [row + (value,) for row in rows for value in range(size)]
    return tuple(rows)


def are_sizes(value):
    """Tell whether a value is a tuple of sizes of cells."""
    if not is_tuple(value, 1, MOST_CELLS):
        return False
    many = 1
    for size in value:
        if not is_integer(size, 2, MOST_VALUES):
            return False
        many = many * size
    return many <= MOST_CONTENTS


def is_content(sizes, value):
    """Tell whether a value is a content of cells of these sizes."""
    if not is_tuple(value, len(sizes), len(sizes)):
        return False
    return all(is_integer(part, 0, size - 1) for part, size in zip(value, sizes))


def content_form(house):
    """Return a function that tells whether a value is a content of the house."""
    return lambda value: is_content(house[0], value)


def is_kind(sizes, value):
    """Tell whether a value is a kind for cells of these sizes."""
    return is_tuple(value, 0, MOST_STEPS) and all(_is_step(sizes, step) for step in value)


def _is_step(sizes, value):
    if is_tuple(value, 5, 5) and value[0] == "when":
        return _is_when(sizes, value)
    return _is_plain_step(sizes, value)


def _is_when(sizes, value):
    _, cell, low, high, inner = value
    if not _is_cell(sizes, cell):
        return False
    greatest = sizes[cell] - 1
    if not is_integer(low, 0, greatest) or not is_integer(high, low, greatest):
        return False
    return _is_plain_step(sizes, inner)


def _is_plain_step(sizes, value):
    """Tell whether a value is a step that is no when: a word, a cell, and a number."""
    if not is_tuple(value, 3, 3) or not _is_cell(sizes, value[1]):
        return False
    word, cell, last = value
    greatest = sizes[cell] - 1
    if word in ("set", "raise", "lower"):
        return is_integer(last, 0, greatest)
    if word in ("add", "up"):
        return is_integer(last, 1, greatest)
    if word not in ("copy", "swap") or not _is_cell(sizes, last) or last == cell:
        return False
    return word == "copy" or sizes[last] == sizes[cell]


def _is_cell(sizes, value):
    return is_integer(value, 0, len(sizes) - 1)
