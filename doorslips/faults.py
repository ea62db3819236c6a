"""The faults of the papers of which certificates consist: None is no fault.

A ground is a pair of what each kind makes of each content, as makes returns it, and begin.
"""

from doorslips.pairs import makes, next_pairs
from doorslips.questions import next_questions
from doorslips.slips import number_of


def ground_of(house):
    """Return the ground of a house."""
    return makes(house), house[1]


def inner(place, fault):
    """Return a fault with the place at which it is an inner one, or None."""
    return None if fault is None else place + (fault,)


def part_fault(ground, use, goer, part):
    """Return the first fault of a part of a goer, or None."""
    pairs, doors, rows = part
    given = {door: slip for door, slip in doors}
    return (
        pairs_fault(ground, use, pairs)
        or _doors_fault(pairs, given)
        or _rows_fault(ground, use, goer, pairs, given, rows)
    )


def parts_fault(ground, use, parts):
    """Return ("part", j, f) for the first part that has a fault, each being one of a goer, in order; or None."""
    for index, (goer, part) in enumerate(zip(use[1], parts)):
        fault = part_fault(ground, use, goer, part)
        if fault is not None:
            return ("part", index, fault)
    return None


def slips_of_parts(parts):
    """Return how many slips the parts have together."""
    return sum(number_of(doors) for _, doors, _ in parts)


def pairs_fault(ground, use, pairs):
    """Return ("start",) or ("pair", k, z) if a pair lacks that must be there, else None."""
    made, begin = ground
    there = set(pairs)
    if (begin, begin) not in there:
        return ("start",)
    for index, pair in enumerate(pairs):
        for (kind, _), other in next_pairs(made, use, pair):
            if other not in there:
                return ("pair", index, kind)
    return None


def later_fault(ground, use, rows):
    """Return ("later", k, z) if a row lacks that a later kind asks for, else None.

    The last two parts of each row are a present and a wanted content.
    """
    there = set(rows)
    for index, row in enumerate(rows):
        for later, question in next_questions(ground[0], use, row[-2:]):
            if row[:-2] + question not in there:
                return ("later", index, later)
    return None


def twice_fault(rows):
    """Return ("two", k) for the first row that is like the one ahead of it but for the last part, or None."""
    for index in range(1, len(rows)):
        if rows[index][:-1] == rows[index - 1][:-1]:
            return ("two", index)
    return None


def never_fault(ground, use, goer, cases):
    """Return the first fault of a never of a goer, or None."""
    return _order_fault(use, cases) or _door_fault(ground, cases) or _contents_fault(ground, goer, cases)


def bound_fault(ground, use, goer, many, lines, tree):
    """Return the first fault of lines and of a tree by them against so many classes, or None."""
    for index, line in enumerate(lines):
        fault = _order_fault(use, line) or _contents_fault(ground, goer, line)
        if fault is not None:
            return ("line", index, fault)
    ends = [(done(ground, one[0]), done(ground, two[0])) for one, two in lines]
    return inner(("tree",), _wrong_node(ends, many, tree, (), ()))


def done(ground, comers):
    """Return what the comers make of begin."""
    return _done_to(ground[0], ground[1], comers)


def _done_to(made, content, comers):
    for comer in comers:
        content = made[comer][content]
    return content


def _doors_fault(pairs, given):
    for index, pair in enumerate(pairs):
        if pair[0] not in given:
            return ("door", index)
    firsts = {pair[0] for pair in pairs}
    for index, door in enumerate(given):
        if door not in firsts:
            return ("none", index)
    slips = sorted(set(list(given.values())))
    return None if slips == list(range(len(slips))) else ("gap",)


def _rows_fault(ground, use, goer, pairs, given, rows):
    newer = ground[0][goer]
    there = set(rows)
    for index, (first, second) in enumerate(pairs):
        if (given[first], newer[second], second) not in there:
            return ("row", index)
    return later_fault(ground, use, rows) or twice_fault(rows)


def _order_fault(use, cases):
    """Return ("case", i, "gone") or ("case", i, "later") if a case is not as the use tells, or None."""
    order, goers = use
    for index, (comers, gone, later) in enumerate(cases):
        theirs = [at for at, comer in enumerate(comers) if comer in goers]
        if order == "any":
            fits = all(at in theirs for at in gone)
        else:
            fits = list(gone) == (theirs if order == "oldest" else [])
        if not fits:
            return ("case", index, "gone")
        if order == "newest" and any(kind in goers for kind in later):
            return ("case", index, "later")
    return None


def _door_fault(ground, cases):
    one, two = cases
    return None if done(ground, one[0]) == done(ground, two[0]) else ("door",)


def _contents_fault(ground, goer, cases):
    """Return ("present",) unless two cases have one present, ("wanted",) if they have one wanted content, or None."""
    one, two = [_question(ground, goer, case) for case in cases]
    if one[0] != two[0]:
        return ("present",)
    return ("wanted",) if one[1] == two[1] else None


def _question(ground, goer, case):
    """Return the present and the wanted content of a case."""
    comers, gone, later = case
    made, begin = ground
    rest = _done_to(made, begin, [kind for at, kind in enumerate(comers) if at not in gone])
    return _done_to(made, made[goer][rest], later), _done_to(made, rest, later)


def _wrong_node(ends, many, node, classes, path):
    """Return the path to the first wrong node of a tree, or None; the classes are tuples of contents."""
    if node[0] == "alike":
        one, two = ends[node[1]]
        return None if any(one in there and two in there for there in classes) else path
    _, content, children = node
    fresh = 1 if len(classes) < many else 0
    if any(content in there for there in classes) or len(children) != len(classes) + fresh:
        return path
    for index, child in enumerate(children):
        there = classes[index] if index < len(classes) else ()
        grown = classes[:index] + (there + (content,),) + classes[index + 1:]
        wrong = _wrong_node(ends, many, child, grown, path + (index,))
        if wrong is not None:
            return wrong
    return None
