"""Stage 11: sets of kinds that can go together, and the best of them under a bound of slips."""

from doorslips.errors import InvalidUse, InvalidWorths
from doorslips.forms import is_integer, is_tuple
from doorslips.slips import least_slips
from doorslips.uses import all_sets, is_order

MOST_WORTH = 99
MOST_BOUND = 32


def sets_that_go(house, order):
    """Return the ascending tuple of all sets that can go by an order; raise InvalidUse unless it is one."""
    _require_order(order)
    return tuple(goers for goers in all_sets(house) if slips_of(house, (order, goers)) is not None)


def best_worth(house, order, worths, most):
    """Return the best by an order, worths and a bound, or None; raise InvalidUse, then InvalidWorths."""
    goers = best_goers(house, order, worths, most)
    return None if goers is None else worth_of(worths, goers)


def best_goers(house, order, worths, most):
    """Return a set that has the best, or None; raise InvalidUse, then InvalidWorths."""
    _require_order(order)
    if not are_worths(house, worths) or not is_bound(most):
        raise InvalidWorths()
    best = None
    for goers in all_sets(house):
        if best is None or worth_of(worths, goers) > worth_of(worths, best):
            slips = slips_of(house, (order, goers))
            if slips is not None and slips <= most:
                best = goers
    return best


def slips_of(house, use):
    """Return the sum of the least numbers of slips of all goers of a use, or None if one of them is never to go."""
    total = 0
    for goer in use[1]:
        least = least_slips(house, use, goer)
        if least is None:
            return None
        total += least
    return total


def worth_of(worths, goers):
    """Return the worth of a set."""
    return sum(worths[goer] for goer in goers)


def are_worths(house, value):
    """Tell whether a value is a tuple with a worth for each kind of the house."""
    many = len(house[2])
    return is_tuple(value, many, many) and all(is_integer(worth, 0, MOST_WORTH) for worth in value)


def is_bound(value):
    """Tell whether a value is a bound of slips."""
    return is_integer(value, 0, MOST_BOUND)


def _require_order(value):
    if not is_order(value):
        raise InvalidUse()
