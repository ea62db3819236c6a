"""Stage 10: exchanges, by which one keeper takes over from another one while entries are in."""

from doorslips.keepers import slip_rows
from doorslips.questions import doors


def exchange_of(house, use, old, new):
    """Return the exchange from one keeper to another one, or None."""
    given, newer = slip_rows(old), slip_rows(new)
    found = {}
    for goer in use[1]:
        for door in doors(house):
            if (goer, door) not in given or (goer, door) not in newer:
                return None
            row = (goer, given[(goer, door)])
            if found.setdefault(row, newer[(goer, door)]) != newer[(goer, door)]:
                return None
    return tuple(sorted([row + (slip,) for row, slip in found.items()]))
