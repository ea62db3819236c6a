"""Studies of a goer: what certificates tell of it, all from one look at its questions."""

from doorslips.clashes import cases_of, clashing, never_of
from doorslips.keepers import question_rows
from doorslips.pairs import pair_ways
from doorslips.questions import asked
from doorslips.slips import number_of, parted


class Study:
    """A goer of a use: the questions at all doors, which doors clash, and a slip for each door if it can go."""

    def __init__(self, house, use, goer):
        self.came = pair_ways(house, use)
        self.at_doors = asked(house, use, goer)
        self.odds = clashing(self.at_doors)
        self.given = parted(list(self.at_doors), self.odds)

    def least(self):
        """Return the least number of slips, or None."""
        return None if self.given is None else number_of(self.given)

    def right_part(self):
        """Return a right part with the least number of slips; the goer can go."""
        return tuple(sorted(self.came)), self.given, tuple(question_rows(self.at_doors, self.given))

    def never(self):
        """Return a never; the goer is never to go."""
        return never_of(self.came, self.at_doors, self.odds)

    def bound(self, many):
        """Return lines, and a tree by them against so many classes, which are fewer than the least number."""
        numbers = {}
        tree = _tree(self.odds, many, self._ranked(), (), (), numbers)
        lines = tuple(cases_of(self.came, self.at_doors, doors, self.odds[doors]) for doors in numbers)
        return lines, tree

    def _ranked(self):
        """Return the list of the doors, those with the most clashes first: their classes are soon too many."""
        counts = {door: 0 for door in self.at_doors}
        for one, two in self.odds:
            counts[one] -= 1
            counts[two] -= 1
        ranked = sorted([(count, door) for door, count in counts.items()])
        return [door for _, door in ranked]


def _tree(odds, many, left, classes, fresh, numbers):
    """Return a tree that puts the doors that are left into the classes; fresh is the class that got the last one.

    numbers are the numbers of the lines, by the pairs of doors that clash: new ones are put in.
    """
    for door in fresh[:-1]:
        doors = (min(door, fresh[-1]), max(door, fresh[-1]))
        if doors in odds:
            return ("alike", numbers.setdefault(doors, len(numbers)))
    door, rest = left[0], left[1:]
    children = []
    for index in range(min(len(classes) + 1, many)):
        newer = (classes[index] if index < len(classes) else ()) + (door,)
        grown = classes[:index] + (newer,) + classes[index + 1:]
        children.append(_tree(odds, many, rest, grown, newer, numbers))
    return ("put", door, tuple(children))
