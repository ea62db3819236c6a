"""What the tests share: houses, values that fit nowhere, and checks that nothing handed in is modified."""

import unittest

TURN = (
    (2, 3),
    (0, 0),
    (
        (("when", 0, 0, 0, ("add", 1, 1)), ("when", 0, 1, 1, ("add", 1, 2))),
        (("add", 0, 1),),
    ),
)

ALL_SIZES = (
    (2,), (3,), (4,), (5,), (6,), (7,), (8,),
    (2, 2), (2, 3), (2, 4), (3, 2), (4, 2),
    (2, 2, 2),
)

HUGE = 10 ** 30 - 1


def nested(depth, wrap):
    """Return a value nested as deep as told."""
    value = wrap(0)
    for _ in range(depth - 1):
        value = wrap(value)
    return value


# None of these is a house, or a part of one, or a use, or a part of one.
NOWHERE = (
    None, True, False, -1, HUGE, -HUGE, "", "0", "add ", "Any", "when when",
    [], [()], [0], {}, {0: 0}, {"sizes": (2,)}, (((),),), ([],), (None,), (True,), ("add",), ("when",),
    nested(40, lambda inner: (inner,)),
    nested(40, lambda inner: [inner]),
    nested(40, lambda inner: {"a": inner}),
    (0,) * 100000, [0] * 100000,
)


def house_of(*steps, sizes=(2, 2, 2)):
    """Return a house with one kind of these steps."""
    return (sizes, (0,) * len(sizes), (steps,))


def house_of_kinds(many):
    """Return a house of many kinds."""
    return ((8,), (0,), tuple((("set", 0, kind),) for kind in range(many)))


def paths(value, path=()):
    """Return the paths to all parts of nested tuples, the value itself at first."""
    found = [path]
    if isinstance(value, tuple):
        for index, part in enumerate(value):
            found.extend(paths(part, path + (index,)))
    return found


def part_at(value, path):
    """Return the part to which a path leads."""
    for index in path:
        value = value[index]
    return value


def put(value, path, part):
    """Return nested tuples with another part at a path."""
    if not path:
        return part
    index = path[0]
    return value[:index] + (put(value[index], path[1:], part),) + value[index + 1:]


class Case(unittest.TestCase):
    """A test case whose calls must not modify what they are handed."""

    def answer(self, function, *arguments, **named):
        """Return what the call returns."""
        # The repr tells a tuple from a list, and True from 1; equality does not.
        before = repr((arguments, named))
        try:
            return function(*arguments, **named)
        finally:
            self.assertEqual(repr((arguments, named)), before, "an argument was modified")

    def error(self, error, function, *arguments, **named):
        """Return the error that the call raises, which is of just this class."""
        with self.assertRaises(error) as caught:
            self.answer(function, *arguments, **named)
        self.assertIs(type(caught.exception), error)
        return caught.exception

    def same(self, found, expected):
        """Check that two values are equal, and of the same kinds throughout."""
        self.assertEqual(repr(found), repr(expected))
