"""The forms of claims about a house."""

from doorslips.forms import ascends, is_integer, is_tuple
from doorslips.histories import MOST_EVENTS
from doorslips.keepers import is_keeper
from doorslips.sets import are_worths, is_bound
from doorslips.uses import is_goer, is_order, is_set_of_kinds, is_use

MOST_SLIPS = 8
# Four kinds have at most this worth together.
GREATEST_BEST = 396


def is_claim(house, value):
    """Tell whether a value is a claim that is valid for the house."""
    # A word that cannot be a key must not be looked for among the keys.
    if not isinstance(value, tuple) or not value or not isinstance(value[0], str):
        return False
    form = CLAIMS.get(value[0])
    return form is not None and form(house, value)


def _is_least(house, value):
    if not _is_of_use(house, value, 4):
        return False
    _, use, goer, many = value
    return is_goer(use, goer) and is_integer(many, 1, MOST_SLIPS)


def _is_never(house, value):
    return _is_of_use(house, value, 3) and is_goer(value[1], value[2])


def _is_can(house, value):
    return _is_of_use(house, value, 2)


def _is_sets(house, value):
    if not is_tuple(value, 3, 3) or not is_order(value[1]) or not isinstance(value[2], tuple):
        return False
    return all(is_set_of_kinds(house, goers) for goers in value[2]) and ascends(value[2])


def _is_best(house, value):
    if not is_tuple(value, 5, 5):
        return False
    _, order, worths, most, worth = value
    return is_order(order) and are_worths(house, worths) and is_bound(most) and is_integer(worth, 0, GREATEST_BEST)


def _is_right(house, value):
    return _is_of_use(house, value, 3) and is_keeper(house, value[1], value[2])


def _is_shortest(house, value):
    if not _is_of_use(house, value, 4):
        return False
    _, use, keeper, many = value
    return is_keeper(house, use, keeper) and is_integer(many, 1, MOST_EVENTS)


def _is_exchange(house, value):
    if not _is_of_use(house, value, 4):
        return False
    _, use, old, new = value
    return is_keeper(house, use, old) and is_keeper(house, use, new)


def _is_of_use(house, value, many):
    """Tell whether a value is a tuple of so many parts, the second one being a use of the house."""
    return is_tuple(value, many, many) and is_use(house, value[1])


CLAIMS = {
    "least": _is_least,
    "never": _is_never,
    "can": _is_can,
    "sets": _is_sets,
    "best": _is_best,
    "right": _is_right,
    "shortest": _is_shortest,
    "exchange": _is_exchange,
}
