"""What the tests share: houses, cases, values that fit nowhere, and checks that nothing handed in is modified."""

import itertools
import random
import unittest

from doorslips.houses import contents
from doorslips.kinds import after

ORDERS = ("any", "oldest", "newest")

TURN = (
    (2, 3),
    (0, 0),
    (
        (("when", 0, 0, 0, ("add", 1, 1)), ("when", 0, 1, 1, ("add", 1, 2))),
        (("add", 0, 1),),
    ),
)

GREATEST = ((3,), (0,), ((("raise", 0, 0),), (("raise", 0, 1),), (("raise", 0, 2),)))
LAST = ((3,), (0,), ((("set", 0, 1),), (("set", 0, 2),)))
SUM = ((3,), (0,), ((("add", 0, 1),), (("add", 0, 2),)))
EIGHT = ((8,), (0,), ((("set", 0, 0),), (("add", 0, 1),)))
# The first cell keeps the last bit that came, the second one the bit ahead of it.
WINDOW = ((2, 2), (0, 0), ((("copy", 1, 0), ("set", 0, 0)), (("copy", 1, 0), ("set", 0, 1))))
# One who comes only counts if the door is open; one opens it, one shuts it.
GATE = ((2, 2), (1, 0), ((("when", 0, 1, 1, ("add", 1, 1)),), (("set", 0, 1),), (("set", 0, 0),)))
FOUR = ((2, 2, 2), (0, 1, 0), ((("swap", 0, 1),), (), (("add", 2, 1), ("copy", 0, 2)), (("lower", 1, 0),)))

ROUND = ((8,), (0,), ((("add", 0, 1),),))
# The first kind counts up to 7 and no further, the second one counts around, the third does nothing.
COUNTS = ((8,), (0,), ((("up", 0, 1),), (("add", 0, 1),), (), (("when", 0, 0, 6, ("add", 0, 1)),)))

HOUSES = (TURN, GREATEST, LAST, SUM, EIGHT, WINDOW, GATE, FOUR)

ALL_SIZES = (
    (2,), (3,), (4,), (5,), (6,), (7,), (8,),
    (2, 2), (2, 3), (2, 4), (3, 2), (4, 2),
    (2, 2, 2),
)

HUGE = 10 ** 30 - 1


def nested(depth, wrap):
    """Return a value nested as deep as told."""
    value = wrap(0)
    for _ in range(depth - 1):
        value = wrap(value)
    return value


# None of these is a house, or a part of one, or a use, or a part of one.
NOWHERE = (
    None, True, False, -1, HUGE, -HUGE, "", "0", "add ", "Any", "when when",
    [], [()], [0], {}, {0: 0}, {"sizes": (2,)}, (((),),), ([],), (None,), (True,), ("add",), ("when",),
    nested(40, lambda inner: (inner,)),
    nested(40, lambda inner: [inner]),
    nested(40, lambda inner: {"a": inner}),
    (0,) * 100000, [0] * 100000,
)

# None of these is a kind, or a goer of any use of any house.
NO_GOERS = NOWHERE + (4, -4, 10 ** 9, "1", (), (0,), (0, 1), (0, 1, 2, 3), [1], {1: 1}, ("any", (0,)), "any")


def house_of(*steps, sizes=(2, 2, 2)):
    """Return a house with one kind of these steps."""
    return (sizes, (0,) * len(sizes), (steps,))


def house_of_kinds(many):
    """Return a house of many kinds."""
    return ((8,), (0,), tuple((("set", 0, kind),) for kind in range(many)))


def all_steps(sizes):
    """Return all steps for cells of these sizes."""
    cells = range(len(sizes))
    steps = [(word, c, v) for c in cells for v in range(sizes[c]) for word in ("set", "raise", "lower")]
    steps += [(word, c, n) for c in cells for n in range(1, sizes[c]) for word in ("add", "up")]
    steps += [("copy", c, d) for c, d in itertools.permutations(cells, 2)]
    steps += [("swap", c, d) for c, d in itertools.permutations(cells, 2) if sizes[c] == sizes[d]]
    bounds = [(c, low, high) for c in cells for high in range(sizes[c]) for low in range(high + 1)]
    return steps + [("when",) + bound + (step,) for bound in bounds for step in steps]


def some_houses(many, seed):
    """Return as many houses, drawn by the seed alone: those of 8 contents and of 4 kinds are the most."""
    draw = random.Random(seed)
    houses = []
    for index in range(many):
        sizes = draw.choice(ALL_SIZES if index % 2 else ((8,), (2, 4), (4, 2), (2, 2, 2)))
        steps = all_steps(sizes)
        begin = tuple(draw.randrange(size) for size in sizes)
        kinds = tuple(
            tuple(draw.choice(steps) for _ in range(draw.randint(0, 6 if index % 3 else 2)))
            for _ in range(4 if index % 4 else draw.randint(1, 3))
        )
        houses.append((sizes, begin, kinds))
    return houses


def all_uses(house):
    """Return all uses of a house."""
    kinds = range(len(house[2]))
    sets = [goers for size in kinds for goers in itertools.combinations(kinds, size + 1)]
    return [(order, goers) for order in ORDERS for goers in sets]


def rows_of(kinds, most):
    """Return all tuples of at most so many of the kinds."""
    return [row for size in range(most + 1) for row in itertools.product(kinds, repeat=size)]


def all_gone(use, comers):
    """Return all tuples of indices of the comers who may have gone in between, as point 8 tells them."""
    order, goers = use
    theirs = [index for index, kind in enumerate(comers) if kind in goers]
    if order == "newest":
        return [()]
    if order == "oldest":
        return [tuple(theirs)]
    return [gone for size in range(len(theirs) + 1) for gone in itertools.combinations(theirs, size)]


def later_kinds(house, use):
    """Return the kinds of which later ones may be, as point 8 tells them."""
    return [kind for kind in range(len(house[2])) if use[0] != "newest" or kind not in use[1]]


def all_cases(house, use, most_comers, most_later):
    """Return all cases of at most so many comers and later ones; they are the same for each goer."""
    return [
        (comers, gone, later)
        for comers in rows_of(range(len(house[2])), most_comers)
        for gone in all_gone(use, comers)
        for later in rows_of(later_kinds(house, use), most_later)
    ]


def door_of(house, case):
    """Return the door of a case."""
    return after(house, house[1], case[0])


def rest_of(case):
    """Return the comers of a case without those who are gone."""
    comers, gone, _ = case
    return tuple(kind for index, kind in enumerate(comers) if index not in gone)


def pair_of(house, case):
    """Return the pair of a case."""
    return door_of(house, case), after(house, house[1], rest_of(case))


def question_of(house, goer, case):
    """Return the pair of the present and the wanted of a case of a goer."""
    present = after(house, house[1], rest_of(case) + (goer,) + case[2])
    return present, after(house, house[1], rest_of(case) + case[2])


def told_with(house, use, pair, both=True, alone=True):
    """Return the pairs that must be there with a pair, as point 8 tells them.

    Either those of which the kind is done to both parts, or to the first one alone, may be left out.
    """
    order, goers = use
    told = []
    for kind in range(len(house[2])):
        first, second = (after(house, content, (kind,)) for content in pair)
        if both and (kind not in goers or order in ("any", "newest")):
            told.append((first, second))
        if alone and kind in goers and order in ("any", "oldest"):
            told.append((first, pair[1]))
    return told


def entries_after(use, history):
    """Return the list of (number, kind) of those who are in after a history, or None if the use does not let it."""
    order, goers = use
    there, came = [], 0
    for word, number in history:
        if word == "in":
            there.append((number, came))
            came += 1
            continue
        theirs = [(kind, entry) for kind, entry in there if kind in goers]
        turns = {"any": theirs, "oldest": theirs[0:1], "newest": theirs[-1:]}[order]
        going = [pair for pair in turns if pair[1] == number]
        if not going:
            return None
        there.remove(going[0])
    return [(entry, kind) for kind, entry in there]


def all_histories(house, use, most):
    """Return all histories of the use with at most so many events."""
    found = fresh = [()]
    for _ in range(most):
        events = [("in", kind) for kind in range(len(house[2]))] + [("out", number) for number in range(most)]
        fresh = [row + (event,) for row in fresh for event in events if entries_after(use, row + (event,)) is not None]
        found = found + fresh
    return found


def drawn_history(house, use, draw, events):
    """Return a history of the use with as many events, drawn so that entries come and go."""
    history, there = [], []
    many = 0
    leaning = draw.choice((0.3, 0.5, 0.7))
    while len(history) < events:
        theirs = [number for number, kind in there if kind in use[1]]
        if theirs and draw.random() < leaning:
            number = {"any": draw.choice(theirs), "oldest": theirs[0], "newest": theirs[-1]}[use[0]]
            there = [entry for entry in there if entry[0] != number]
            history.append(("out", number))
        else:
            kind = draw.randrange(len(house[2]))
            there.append((many, kind))
            many += 1
            history.append(("in", kind))
    return tuple(history)


def cells(*pairs_of_values):
    """Return pairs of contents of one cell."""
    return tuple(((one,), (two,)) for one, two in pairs_of_values)


def paths(value, path=()):
    """Return the paths to all parts of nested tuples, the value itself at first."""
    found = [path]
    if isinstance(value, tuple):
        for index, part in enumerate(value):
            found.extend(paths(part, path + (index,)))
    return found


def part_at(value, path):
    """Return the part to which a path leads."""
    for index in path:
        value = value[index]
    return value


def put(value, path, part):
    """Return nested tuples with another part at a path."""
    if not path:
        return part
    index = path[0]
    return value[:index] + (put(value[index], path[1:], part),) + value[index + 1:]


class Case(unittest.TestCase):
    """A test case whose calls must not modify what they are handed."""

    def answer(self, function, *arguments, **named):
        """Return what the call returns."""
        # The repr tells a tuple from a list, and True from 1; equality does not.
        before = repr((arguments, named))
        try:
            return function(*arguments, **named)
        finally:
            self.assertEqual(repr((arguments, named)), before, "an argument was modified")

    def error(self, error, function, *arguments, **named):
        """Return the error that the call raises, which is of just this class."""
        with self.assertRaises(error) as caught:
            self.answer(function, *arguments, **named)
        self.assertIs(type(caught.exception), error)
        return caught.exception

    def same(self, found, expected):
        """Check that two values are equal, and of the same kinds throughout."""
        self.assertEqual(repr(found), repr(expected))

    def are_pairs_of_contents(self, house, found):
        """Check that a tuple of pairs of contents of a house ascends, with each one once."""
        self.assertIs(type(found), tuple)
        self.assertEqual(list(found), sorted(set(found)))
        for pair in found:
            self.assertIs(type(pair), tuple)
            self.assertEqual(len(pair), 2)
            self.assertLessEqual(set(pair), set(contents(house)))
