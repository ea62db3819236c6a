"""Stage 3: uses, which tell in which order the entries of which kinds may go."""

from doorslips.errors import InvalidUse
from doorslips.forms import ascends, is_integer, is_tuple

ORDERS = ("any", "oldest", "newest")


def require_use(house, value):
    """Return the value if it is a use of the house; raise InvalidUse else."""
    if not is_use(house, value):
        raise InvalidUse()
    return value


def all_sets(house):
    """Return the ascending tuple of all sets of kinds of a house."""
    rows = [()]
    for kind in range(len(house[2])):
        rows = rows + [row + (kind,) for row in rows]
    # The empty tuple, which is no set of kinds, is the least row.
    return tuple(sorted(rows)[1:])


def is_use(house, value):
    """Tell whether a value is a use of the house."""
    return is_tuple(value, 2, 2) and is_order(value[0]) and is_set_of_kinds(house, value[1])


def is_order(value):
    """Tell whether a value is an order in which entries may go."""
    return value in ORDERS


def is_set_of_kinds(house, value):
    """Tell whether a value is a strictly ascending tuple of kinds, and not ()."""
    many = len(house[2])
    return is_tuple(value, 1, many) and all(is_integer(kind, 0, many - 1) for kind in value) and ascends(value)


def is_goer(use, value):
    """Tell whether a value is a goer of the use."""
    goers = use[1]
    return is_integer(value, 0, goers[-1]) and value in goers


def goer_form(use):
    """Return a function that tells whether a value is a goer of the use."""
    return lambda value: is_goer(use, value)
