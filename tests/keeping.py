"""What the tests tell of keepers by themselves: plays, errors, keepers of all sorts, and ways to part doors."""

import functools

from doorslips.clashes import clashes, never_cases
from doorslips.houses import contents
from doorslips.kinds import after
from doorslips.questions import doors, questions
from tests.helper import all_uses, door_of, entries_after, question_of, told_with


@functools.lru_cache(maxsize=None)
def ways_to_part(many):
    """Return all ways to part as many things: tuples of the number of each one's class, new ones in their order."""
    rows = [()]
    for _ in range(many):
        rows = [row + (number,) for row in rows for number in range(max(row, default=-1) + 2)]
    return rows


def least_by_all_ways(house, use, kind):
    """Return the least number of classes of doors in which no two clash, of all ways to part the doors, or None."""
    there = doors(house)
    at = {door: index for index, door in enumerate(there)}
    odds = [(at[one], at[two]) for one, two in clashes(house, use, kind)]
    fitting = [
        1 + max(row) for row in ways_to_part(len(there)) if all(row[one] != row[two] for one, two in odds)
    ]
    return min(fitting, default=None)


def uses_that_go(house):
    """Return the uses of a house whose goers can go."""
    return [use for use in all_uses(house) if all(never_cases(house, use, kind) is None for kind in use[1])]


def plays(house, use, keeper, history):
    """Return (contents behind the events, the first event at which the keeper errs or None), as point 12 tells."""
    content, slips, found, wrong = house[1], [], [], None
    for index, (word, number) in enumerate(history):
        if word == "in":
            given = [slip for kind, door, slip in keeper[0] if (kind, door) == (number, content)]
            lacks = number in use[1] and not given
            slips.append((number, given[0] if given else None))
            content = None if lacks else after(house, content, (number,))
        else:
            newer = [row[3] for row in keeper[1] if row[:3] == slips[number] + (content,)]
            content = newer[0] if newer else None
        found.append(content)
        there = entries_after(use, history[:index + 1])
        if content != after(house, house[1], [kind for _, kind in there]) and wrong is None:
            wrong = index
        if content is None:
            break
    return found, wrong


def least_error_by_events(house, use, keeper, most):
    """Return the number of events of the shortest errors, if at most so many, by what is come to with each number."""
    given = {row[:2]: row[2] for row in keeper[0]}
    goings = {row[:3]: row[3] for row in keeper[1]}
    at_pairs, at_rows = {-1: set(), 0: {(house[1], house[1])}}, {0: set()}
    at_doors = {house[1]}
    for events in range(most):
        if any((goer, door) not in given for door in at_doors for goer in use[1]):
            return events + 1
        at_doors = {after(house, door, (kind,)) for door in at_doors for kind in range(len(house[2]))}
        for goer, slip, present, wanted in at_rows[events]:
            if goings.get((goer, slip, present)) != wanted:
                return events + 1
        both = {pair for old in at_pairs[events] for pair in told_with(house, use, old, alone=False)}
        alone = {pair for old in at_pairs[events - 1] for pair in told_with(house, use, old, both=False)}
        at_pairs[events + 1] = both | alone
        later = [kind for kind in range(len(house[2])) if use[0] != "newest" or kind not in use[1]]
        at_rows[events + 1] = {
            row[:2] + tuple(after(house, content, (kind,)) for content in row[2:])
            for row in at_rows[events] for kind in later
        } | {
            (goer, given[goer, door], after(house, rest, (goer,)), rest)
            for door, rest in at_pairs[events] for goer in use[1] if (goer, door) in given
        }
    return None


def own_slips(house, use, every=False):
    """Return a keeper with a slip of its own for each door, or for each content; right unless some goer is never to go.

    Where a door has questions that clash, it goes by the least wanted content.
    """
    slips, goings = [], {}
    there = contents(house) if every else doors(house)
    for goer in use[1]:
        for number, door in enumerate(there):
            slips.append((goer, door, number))
            for present, wanted in questions(house, use, goer, door):
                goings.setdefault((goer, number, present), wanted)
    return tuple(slips), tuple(row + (goings[row],) for row in sorted(goings))


def spoiled(house, keeper, draw):
    """Return keepers with one row left out, with one newer or one slip changed, and with hardly any rows."""
    slips, goings = keeper
    found = [((), ()), (slips, ()), ((), goings)]
    for _ in range(2):
        at = draw.randrange(len(slips))
        kind, content, slip = slips[at]
        found.append((slips[:at] + slips[at + 1:], goings))
        other = draw.choice([number for number in range(8) if number != slip])
        found.append((slips[:at] + ((kind, content, other),) + slips[at + 1:], goings))
        at = draw.randrange(len(goings))
        kind, slip, content, newer = goings[at]
        found.append((slips, goings[:at] + goings[at + 1:]))
        other = draw.choice([content for content in contents(house) if content != newer])
        found.append((slips, goings[:at] + ((kind, slip, content, other),) + goings[at + 1:]))
    return found


def row_of_case(house, keeper, kind, case):
    """Return (goer, slip, present, wanted) of a case, by the slip that the keeper gives at its door."""
    given = {row[:2]: row[2] for row in keeper[0]}
    return (kind, given[kind, door_of(house, case)]) + question_of(house, kind, case)
