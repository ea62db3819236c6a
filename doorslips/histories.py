"""Stage 4: histories, in which entries come and go, and what is due after them."""

from doorslips.forms import is_integer, is_tuple
from doorslips.kinds import after

MOST_EVENTS = 400


def is_history(house, use, value):
    """Tell whether a value is a history of the use, of at most 400 events."""
    if not is_tuple(value, 0, MOST_EVENTS):
        return False
    entries = []
    for event in value:
        if not is_event(house, event) or not is_let(use, entries, event):
            return False
        happen(entries, event)
    return True


def inside(house, use, history):
    """Return the ascending tuple of the numbers of the entries that are in after a history."""
    return tuple(number for number, kind in enumerate(_entries(history)) if kind is not None)


def due(house, use, history):
    """Return the content that is due after a history."""
    return after(house, house[1], [kind for kind in _entries(history) if kind is not None])


def is_event(house, value):
    """Tell whether a value is an event of the house, whatever has happened ahead of it."""
    if not is_tuple(value, 2, 2):
        return False
    word, number = value
    if word == "in":
        return is_integer(number, 0, len(house[2]) - 1)
    # The number of an entry has no bound above, so its own value stands for one.
    return word == "out" and is_integer(number, 0, number)


def is_let(use, entries, event):
    """Tell whether the use lets an event happen to the entries; these are told as by happen."""
    order, goers = use
    word, number = event
    if word == "in":
        return True
    may_go = [entry for entry, kind in enumerate(entries) if kind in goers]
    if order == "oldest":
        may_go = may_go[:1]
    elif order == "newest":
        may_go = may_go[-1:]
    return number in may_go


def happen(entries, event):
    """Let an event happen to the entries: a list of their kinds by their numbers, with None for who went."""
    word, number = event
    if word == "in":
        entries.append(number)
    else:
        entries[number] = None


def _entries(history):
    entries = []
    for event in history:
        happen(entries, event)
    return entries
