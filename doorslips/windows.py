"""Stage 14: windows, through which entries come and go by a keeper."""

from doorslips.checker import first_fault
from doorslips.claims import decide
from doorslips.errors import (
    InvalidHouse, Lacking, LimitExceeded, NotNow, Stays, UnknownCheckpoint, UnknownEntry, UnknownKind, UnknownRecord,
)
from doorslips.exchanges import exchange_of
from doorslips.forms import is_integer
from doorslips.houses import is_kind, require_house
from doorslips.keepers import first_error, going_rows, keeper_of, require_keeper, slip_rows
from doorslips.kinds import after
from doorslips.uses import require_use

MOST_ENTRIES = 100
MOST_CHECKPOINTS = 4
MOST_RECORDS = 8


class Window:
    """A house with a use and a keeper, through which entries come and go."""

    def __init__(self, house, use, keeper=None):
        """Make a window; raise InvalidHouse, InvalidUse, InvalidKeeper, or Never where no keeper is given."""
        self._house = require_house(house)
        self._use = require_use(house, use)
        self._keeper = _keeper_for(house, use, keeper)
        self._content = house[1]
        # An entry is (number, kind, slip or None, those who were in when it came, as pairs of number and kind).
        self._entries = []
        self._next = 0
        # The number of the entry of each event done: a list, as __len__ is to return the len of an attribute.
        self._events = []
        self._checkpoints = []
        self._certificates = []

    def __len__(self):
        """Return the number of events done."""
        return len(self._events)

    def enter(self, kind):
        """Let an entry come; return its number; raise UnknownKind, LimitExceeded, Lacking."""
        if not is_integer(kind, 0, len(self._house[2]) - 1):
            raise UnknownKind(kind)
        if len(self._entries) >= MOST_ENTRIES:
            raise LimitExceeded(MOST_ENTRIES)
        slip = slip_rows(self._keeper).get((kind, self._content))
        if slip is None and kind in self._use[1]:
            raise Lacking(self._next)
        number = self._next
        self._entries.append((number, kind, slip, tuple(entry[:2] for entry in self._entries)))
        self._content = after(self._house, self._content, (kind,))
        self._next += 1
        self._events.append(number)
        return number

    def leave(self, number):
        """Let an entry go; raise UnknownEntry, Stays, NotNow, Lacking."""
        entry = self._goer(number)
        theirs = self._numbers_of(self._use[1])
        order = self._use[0]
        if (order == "oldest" and number != theirs[0]) or (order == "newest" and number != theirs[-1]):
            raise NotNow(number)
        newer = going_rows(self._keeper).get((entry[1], entry[2], self._content))
        if newer is None:
            raise Lacking(number)
        self._entries = [other for other in self._entries if other[0] != number]
        self._content = newer
        self._events.append(entry[0])

    def content(self):
        """Return the content."""
        return self._content

    def due(self):
        """Return the content that is due."""
        return after(self._house, self._house[1], [entry[1] for entry in self._entries])

    def is_due(self):
        """Tell whether the content is the one that is due."""
        return self.content() == self.due()

    def inside(self):
        """Return the ascending tuple of the numbers of the entries that are in."""
        return tuple(entry[0] for entry in self._entries)

    def kind_of(self, number):
        """Return the kind of an entry that is in; raise UnknownEntry."""
        return self._entry(number)[1]

    def slip(self, number):
        """Return the slip of an entry that is in, or None if it got none; raise UnknownEntry."""
        return self._entry(number)[2]

    def case(self, number):
        """Return (comers, gone, later) for an entry of a goer that is in; raise UnknownEntry, Stays."""
        ahead = self._goer(number)[3]
        there = self.inside()
        gone = tuple(index for index, (other, _) in enumerate(ahead) if other not in there)
        later = tuple(entry[1] for entry in self._entries if entry[0] > number)
        return tuple(kind for _, kind in ahead), gone, later

    def use(self):
        """Return the use."""
        return self._use

    def keeper(self):
        """Return the keeper."""
        return self._keeper

    def house(self):
        """Return the house."""
        return self._house

    def set_use(self, use, keeper=None):
        """Take another use and keeper; raise InvalidUse, NotNow, InvalidKeeper, Never."""
        require_use(self._house, use)
        self._require_nobody_of(self._use[1] + use[1])
        self._take(self._house, use, _keeper_for(self._house, use, keeper))

    def set_kind(self, index, kind, keeper=None):
        """Put a kind in the place of one; raise UnknownKind, InvalidHouse, NotNow, InvalidKeeper, Never."""
        sizes, begin, kinds = self._house
        if not is_integer(index, 0, len(kinds) - 1):
            raise UnknownKind(index)
        if not is_kind(sizes, kind):
            raise InvalidHouse(("kind", index))
        self._require_nobody_of(self._use[1] + (index,))
        house = (sizes, begin, kinds[:index] + (kind,) + kinds[index + 1:])
        self._take(house, self._use, _keeper_for(house, self._use, keeper))

    def set_keeper(self, keeper):
        """Take another keeper, with newer slips for those who may go; raise InvalidKeeper, NotNow."""
        require_keeper(self._house, self._use, keeper)
        if self._numbers_of(self._use[1]):
            self._entries = self._exchanged(keeper)
        self._take(self._house, self._use, keeper)

    def checkpoint(self):
        """Keep all but len and the records; return its number; raise LimitExceeded."""
        if len(self._checkpoints) >= MOST_CHECKPOINTS:
            raise LimitExceeded(MOST_CHECKPOINTS)
        kept = (self._house, self._use, self._keeper, self._content, tuple(self._entries), self._next)
        self._checkpoints.append(kept)
        return len(self._checkpoints) - 1

    def restore(self, number):
        """Bring back what a checkpoint keeps; raise UnknownCheckpoint."""
        if not is_integer(number, 0, len(self._checkpoints) - 1):
            raise UnknownCheckpoint(number)
        self._house, self._use, self._keeper, self._content, entries, self._next = self._checkpoints[number]
        self._entries = list(entries)

    def decide(self, claim):
        """Return a certificate for or against a claim about the house as it is; raise InvalidClaim."""
        return decide(self._house, claim)

    def record(self, claim):
        """Decide a claim and keep the certificate; return the record's number; raise LimitExceeded, InvalidClaim."""
        if len(self._certificates) >= MOST_RECORDS:
            raise LimitExceeded(MOST_RECORDS)
        self._certificates.append(self.decide(claim))
        return len(self._certificates) - 1

    def records(self):
        """Return how many records there are."""
        return len(self._certificates)

    def recorded(self, number):
        """Return the certificate of a record; raise UnknownRecord."""
        if not is_integer(number, 0, len(self._certificates) - 1):
            raise UnknownRecord(number)
        return self._certificates[number]

    def standing(self, number):
        """Return None if a record stands, else the first fault that it has now; raise UnknownRecord."""
        return first_fault(self._house, self.recorded(number))

    def _entry(self, number):
        for entry in self._entries:
            if is_integer(number, entry[0], entry[0]):
                return entry
        raise UnknownEntry(number)

    def _goer(self, number):
        entry = self._entry(number)
        if entry[1] not in self._use[1]:
            raise Stays(number)
        return entry

    def _numbers_of(self, kinds):
        """Return the list of the numbers of the entries of these kinds that are in."""
        return [entry[0] for entry in self._entries if entry[1] in kinds]

    def _require_nobody_of(self, kinds):
        numbers = self._numbers_of(kinds)
        if numbers:
            raise NotNow(numbers[0])

    def _exchanged(self, keeper):
        """Return the list of the entries with the slips of another keeper; raise NotNow."""
        exchange = exchange_of(self._house, self._use, self._keeper, keeper)
        if exchange is None or first_error(self._house, self._use, self._keeper) is not None:
            raise NotNow(self._numbers_of(self._use[1])[0])
        newer = {(kind, slip): other for kind, slip, other in exchange}
        return [(number, kind, newer.get((kind, slip)), ahead) for number, kind, slip, ahead in self._entries]

    def _take(self, house, use, keeper):
        """Take a house, a use and a keeper, and the content that is due then."""
        self._house, self._use, self._keeper = house, use, keeper
        self._content = self.due()


def _keeper_for(house, use, keeper):
    """Return the keeper, or one of the package's own for None; raise InvalidKeeper, Never."""
    if keeper is None:
        return keeper_of(house, use)
    return require_keeper(house, use, keeper)
