import itertools
import unittest

from doorslips.errors import InvalidHouse
from doorslips.houses import contents, require_house
from tests.helper import (
    ALL_SIZES, HUGE, NOWHERE, TURN, Case, house_of, house_of_kinds, part_at, paths, put,
)

WORDS = ("set", "add", "up", "raise", "lower", "copy", "swap")

# A house with a part of every form that there is.
FULL = (
    (2, 2, 2),
    (0, 1, 0),
    (
        (("set", 0, 1), ("add", 1, 1), ("up", 2, 1), ("raise", 0, 1), ("lower", 1, 0), ("copy", 2, 0)),
        (("swap", 0, 2), ("when", 1, 0, 1, ("swap", 1, 0)), ("when", 2, 1, 1, ("up", 0, 1))),
        (),
        (("when", 0, 0, 0, ("set", 0, 0)),),
    ),
)


def plain_steps(sizes):
    """Return all steps without a when, as point 5 lists them."""
    steps = []
    for cell, size in enumerate(sizes):
        for value in range(size):
            steps += [("set", cell, value), ("raise", cell, value), ("lower", cell, value)]
        for number in range(1, size):
            steps += [("add", cell, number), ("up", cell, number)]
        for other, its_size in enumerate(sizes):
            if other != cell:
                steps.append(("copy", cell, other))
            if other != cell and its_size == size:
                steps.append(("swap", cell, other))
    return steps


def wrong_part(path, value=None):
    """Return the part of a house that is wrong if the value that stands at a path is."""
    if path == (2,) and isinstance(value, tuple) and 1 <= len(value) <= 4:
        return ("kind", 0)
    if path == () or path == (2,):
        return None
    if path[0] == 2:
        return ("kind", path[1])
    return (("sizes",), ("begin",))[path[0]]


class HouseCase(Case):
    def right(self, house):
        self.assertIs(self.answer(require_house, house), house)

    def wrong(self, value, part):
        self.same(self.error(InvalidHouse, require_house, value).part, part)


class TestRightHouses(HouseCase):
    def test_the_example_and_the_full_one(self):
        self.right(TURN)
        self.right(FULL)

    def test_by_name(self):
        self.assertIs(self.answer(require_house, value=TURN), TURN)

    def test_all_sizes(self):
        for sizes in ALL_SIZES:
            with self.subTest(sizes=sizes):
                self.right((sizes, (0,) * len(sizes), ((),)))

    def test_begin_at_both_ends_of_each_cell(self):
        for sizes in ALL_SIZES:
            for begin in itertools.product(*[(0, size - 1) for size in sizes]):
                with self.subTest(sizes=sizes, begin=begin):
                    self.right((sizes, begin, ((),)))

    def test_one_to_four_kinds(self):
        for many in (1, 2, 3, 4):
            with self.subTest(many=many):
                self.right(house_of_kinds(many))
                self.right(((2,), (0,), ((),) * many))

    def test_no_steps_to_six(self):
        for many in range(7):
            with self.subTest(many=many):
                self.right(house_of(*[("add", 0, 1)] * many))
                self.right(((2,), (0,), ((("add", 0, 1),) * many,) * 4))

    def test_each_word_with_each_number_at_both_bounds(self):
        for step in (
            ("set", 0, 0), ("set", 0, 3), ("set", 1, 0), ("set", 1, 1),
            ("raise", 0, 0), ("raise", 0, 3), ("raise", 1, 0), ("raise", 1, 1),
            ("lower", 0, 0), ("lower", 0, 3), ("lower", 1, 0), ("lower", 1, 1),
            ("add", 0, 1), ("add", 0, 3), ("add", 1, 1),
            ("up", 0, 1), ("up", 0, 3), ("up", 1, 1),
            ("copy", 0, 1), ("copy", 1, 0),
        ):
            with self.subTest(step=step):
                self.right(house_of(step, sizes=(4, 2)))
        for step in (("set", 0, 7), ("add", 0, 7), ("up", 0, 7), ("raise", 0, 7), ("lower", 0, 7)):
            with self.subTest(step=step):
                self.right(house_of(step, sizes=(8,)))
        for word in ("copy", "swap"):
            for cell, other in itertools.permutations(range(3), 2):
                with self.subTest(word=word, cell=cell, other=other):
                    self.right(house_of((word, cell, other)))

    def test_when_at_both_bounds(self):
        for cell, low, high in ((0, 0, 0), (0, 0, 3), (0, 3, 3), (0, 1, 2), (1, 0, 0), (1, 0, 1), (1, 1, 1)):
            with self.subTest(cell=cell, low=low, high=high):
                self.right(house_of(("when", cell, low, high, ("add", 0, 3)), sizes=(4, 2)))

    def test_when_around_each_other_word(self):
        for sizes in ALL_SIZES:
            for step in plain_steps(sizes):
                with self.subTest(sizes=sizes, step=step):
                    self.right(house_of(("when", len(sizes) - 1, 0, 1, step), sizes=sizes))


class TestWrongHouses(HouseCase):
    def test_sizes(self):
        for sizes in (
            (), (2, 2, 2, 2), (1, 1, 1, 1), (1,), (0,), (-1,), (-2,), (9,), (1, 2), (2, 1), (2, 2, 1), (1, 8), (9, 2),
            (3, 3), (2, 5), (5, 2), (4, 4), (8, 8, 8), (2, 2, 3), (3, 2, 2), (2, 3, 2), (4, 3), (-2, -2), (-4, -2, 1),
            [2], [2, 2], (True,), (2, True), (False, 2), ("2",), (2, "2"), (None,), ((2,),), ([2],), ({},), (2, ()),
            2, "2", "22", None, True, {}, {2: 2}, {0: 2}, (HUGE,), (-HUGE,), (2, HUGE), (HUGE, -HUGE), (HUGE,) * 3,
        ):
            with self.subTest(sizes=sizes):
                self.wrong((sizes, (0,), ((),)), ("sizes",))
                self.wrong((sizes, (0, 0), ((),)), ("sizes",))

    def test_begin(self):
        for begin in (
            (), (0,), (0, 0, 0), (-1, 0), (0, -1), (2, 0), (0, 3), (3, 0), (HUGE, 0), (0, -HUGE),
            [0, 0], (True, 0), (0, False), ("0", 0), (0, None), ((0,), 0), (0, [0]), {}, {0: 0, 1: 0}, None, 0, "00",
        ):
            with self.subTest(begin=begin):
                self.wrong(((2, 3), begin, ((),)), ("begin",))

    def test_begin_at_the_size_of_each_cell_and_below_zero(self):
        for sizes in ALL_SIZES:
            for cell, size in enumerate(sizes):
                for value in (-1, size):
                    with self.subTest(sizes=sizes, cell=cell, value=value):
                        self.wrong((sizes, put((0,) * len(sizes), (cell,), value), ((),)), ("begin",))

    def test_number_of_kinds(self):
        self.wrong(((2,), (0,), ()), None)
        self.wrong(((2,), (0,), ((),) * 5), None)
        self.wrong(house_of_kinds(5), None)
        self.wrong(house_of_kinds(6), None)

    def test_seven_steps(self):
        seven = (("add", 0, 1),) * 7
        self.wrong(((2,), (0,), (seven,)), ("kind", 0))
        self.wrong(((2,), (0,), ((), (), (), seven)), ("kind", 3))

    def test_not_a_triple(self):
        for value in (
            (), (TURN,), TURN[:2], TURN + (None,), TURN + ((),), list(TURN), TURN[0], TURN[2],
            {0: TURN[0], 1: TURN[1], 2: TURN[2]}, "abc", 3, None, True,
        ):
            with self.subTest(value=value):
                self.wrong(value, None)

    def test_kinds_of_steps(self):
        for step in (
            (), ("set",), ("set", 0), ("set", 0, 0, 0), ("set", 0, 0, 0, ("set", 0, 0)), ("Set", 0, 0), ("", 0, 0),
            ("sett", 0, 0), ("adds", 0, 1), (0, 0, 0), (None, 0, 0), (("set",), 0, 0), (["set"], 0, 0), ({}, 0, 0),
            ("set add", 0, 1), (True, 0, 1), ("when", 0, 0), ("when", 0, 1), ("when", 0, 0, 1),
            ("when", 0, 0, 1, ("set", 0, 0), 0), ("when", 0, 0, ("set", 0, 0)), ("when", 0, ("set", 0, 0)),
            ("add", 0), ("add", 0, 1, 1), ("up", 0), ("up", 0, 1, 1), ("raise", 0), ("raise", 0, 1, 1),
            ("lower", 0), ("lower", 0, 1, 1), ("copy", 0), ("copy", 0, 1, 2), ("swap", 0), ("swap", 0, 1, 2),
            ["set", 0, 0], "set", "set 0 0", 0, None, {"set": (0, 0)}, {},
        ):
            with self.subTest(step=step):
                self.wrong(house_of(step), ("kind", 0))
                self.wrong(house_of(("when", 0, 0, 1, step)), ("kind", 0))
                self.wrong(house_of(("set", 0, 0), ("set", 0, 0), step), ("kind", 0))

    def test_numbers_of_steps(self):
        for step in (
            ("set", -1, 0), ("set", 2, 0), ("set", 0, -1), ("set", 0, 4), ("set", 1, 2),
            ("raise", -1, 0), ("raise", 2, 0), ("raise", 0, -1), ("raise", 0, 4), ("raise", 1, 2),
            ("lower", -1, 0), ("lower", 2, 0), ("lower", 0, -1), ("lower", 0, 4), ("lower", 1, 2),
            ("add", -1, 1), ("add", 2, 1), ("add", 0, 0), ("add", 0, 4), ("add", 1, 0), ("add", 1, 2), ("add", 0, -1),
            ("up", -1, 1), ("up", 2, 1), ("up", 0, 0), ("up", 0, 4), ("up", 1, 0), ("up", 1, 2), ("up", 0, -1),
            ("copy", -1, 0), ("copy", 0, -1), ("copy", 2, 0), ("copy", 0, 2), ("copy", 0, 0), ("copy", 1, 1),
            ("swap", -1, 0), ("swap", 0, -1), ("swap", 2, 0), ("swap", 0, 2), ("swap", 0, 0), ("swap", 1, 1),
            ("swap", 0, 1), ("swap", 1, 0),
            ("when", -1, 0, 0, ("set", 0, 0)), ("when", 2, 0, 0, ("set", 0, 0)), ("when", 0, -1, 0, ("set", 0, 0)),
            ("when", 0, 0, 4, ("set", 0, 0)), ("when", 1, 0, 2, ("set", 0, 0)), ("when", 1, 2, 2, ("set", 0, 0)),
            ("when", 0, 1, 0, ("set", 0, 0)), ("when", 0, 3, 2, ("set", 0, 0)), ("when", 0, 4, 4, ("set", 0, 0)),
            ("when", 0, 0, 0, ("set", 0, 4)), ("when", 0, 0, 0, ("add", 0, 0)), ("when", 0, 0, 0, ("swap", 0, 1)),
            ("when", 0, -HUGE, HUGE, ("set", 0, 0)), ("when", HUGE, 0, 0, ("set", 0, 0)),
            ("set", HUGE, 0), ("set", 0, HUGE), ("set", 0, -HUGE), ("copy", 0, HUGE), ("copy", -HUGE, 1),
        ):
            with self.subTest(step=step):
                self.wrong(house_of(step, sizes=(4, 2)), ("kind", 0))
                self.wrong(house_of(("set", 0, 3), step, sizes=(4, 2)), ("kind", 0))

    def test_a_when_in_a_when(self):
        inner = ("when", 0, 0, 1, ("set", 0, 0))
        self.right(house_of(inner))
        self.wrong(house_of(("when", 0, 0, 1, inner)), ("kind", 0))
        self.wrong(house_of(("when", 0, 0, 1, ("when", 0, 0, 1, inner))), ("kind", 0))

    def test_each_plain_step_that_there_is_and_no_other_one(self):
        for sizes in ALL_SIZES:
            steps = plain_steps(sizes)
            for step in itertools.product(WORDS, range(-1, 4), range(-1, 9)):
                with self.subTest(sizes=sizes, step=step):
                    if step in steps:
                        self.right(house_of(step, sizes=sizes))
                    else:
                        self.wrong(house_of(step, sizes=sizes), ("kind", 0))

    def test_each_when_that_there_is_and_no_other_one(self):
        for sizes in ALL_SIZES:
            for cell, low, high in itertools.product(range(-1, 4), range(-1, 9), range(-1, 9)):
                house = house_of(("when", cell, low, high, ("set", 0, 1)), sizes=sizes)
                with self.subTest(house=house):
                    if 0 <= cell < len(sizes) and 0 <= low <= high < sizes[cell]:
                        self.right(house)
                    else:
                        self.wrong(house, ("kind", 0))


class TestKindsOfValues(HouseCase):
    def test_what_fits_nowhere_at_each_place(self):
        for path in paths(FULL):
            for value in NOWHERE:
                with self.subTest(path=path):
                    self.wrong(put(FULL, path, value), wrong_part(path, value))

    def test_lists_and_dicts_in_the_place_of_tuples(self):
        for path in paths(FULL):
            part = part_at(FULL, path)
            if isinstance(part, tuple):
                with self.subTest(path=path):
                    self.wrong(put(FULL, path, list(part)), wrong_part(path))
                    self.wrong(put(FULL, path, dict(enumerate(part))), wrong_part(path))

    def test_booleans_and_strings_in_the_place_of_integers(self):
        for path in paths(FULL):
            part = part_at(FULL, path)
            if isinstance(part, int):
                with self.subTest(path=path):
                    self.wrong(put(FULL, path, bool(part)), wrong_part(path))
                    self.wrong(put(FULL, path, str(part)), wrong_part(path))

    def test_an_empty_tuple_at_each_place(self):
        for path in paths(FULL):
            with self.subTest(path=path):
                house = put(FULL, path, ())
                if len(path) == 2 and path[0] == 2:
                    self.right(house)
                else:
                    self.wrong(house, wrong_part(path))

    def test_a_part_too_few_or_too_many_in_each_step(self):
        for path in paths(FULL):
            part = part_at(FULL, path)
            if isinstance(part, tuple) and part and isinstance(part[0], str):
                with self.subTest(path=path):
                    self.wrong(put(FULL, path, part[:-1]), wrong_part(path))
                    self.wrong(put(FULL, path, part[1:]), wrong_part(path))
                    self.wrong(put(FULL, path, part + (0,)), wrong_part(path))
                    self.wrong(put(FULL, path, part + (part,)), wrong_part(path))
                    self.wrong(put(FULL, path, part[::-1]), wrong_part(path))


class TestOrderOfParts(HouseCase):
    def test_the_first_wrong_part_is_told(self):
        sizes, begin, kinds = (3, 3), (9,), ((), (("add", 0, 0),), 7)
        self.wrong((sizes, begin, ()), None)
        self.wrong((sizes, begin, list(kinds)), None)
        self.wrong((sizes, begin, kinds * 2), None)
        self.wrong([sizes, begin, kinds], None)
        self.wrong((sizes, begin, kinds), ("sizes",))
        self.wrong((sizes, (0, 0), kinds), ("sizes",))
        self.wrong((sizes, begin, ((),)), ("sizes",))
        self.wrong(((2, 3), begin, kinds), ("begin",))
        self.wrong(((2, 3), (0, 0), kinds), ("kind", 1))
        self.wrong(((2, 3), (0, 0), kinds[::-1]), ("kind", 0))
        self.wrong(((2, 3), (0, 0), ((), (), kinds[2], kinds[1])), ("kind", 2))
        self.wrong(((2, 3), (0, 0), ((), (), (), kinds[1])), ("kind", 3))

    def test_begin_is_judged_by_the_sizes(self):
        self.wrong(((2, 4), (3, 1), ((),)), ("begin",))
        self.right(((4, 2), (3, 1), ((),)))


class TestContents(Case):
    def test_every_row_of_sizes(self):
        for sizes in ALL_SIZES:
            with self.subTest(sizes=sizes):
                house = (sizes, (0,) * len(sizes), ((),))
                expected = tuple(itertools.product(*[range(size) for size in sizes]))
                found = self.answer(contents, house)
                self.same(found, expected)
                self.assertEqual(list(found), sorted(set(found)))

    def test_as_they_stand(self):
        self.same(contents(((3,), (2,), ((),))), ((0,), (1,), (2,)))
        self.same(contents(((3, 2), (2, 1), ((),))), ((0, 0), (0, 1), (1, 0), (1, 1), (2, 0), (2, 1)))
        self.same(
            contents(house=((2, 2, 2), (0, 0, 0), ((),))),
            ((0, 0, 0), (0, 0, 1), (0, 1, 0), (0, 1, 1), (1, 0, 0), (1, 0, 1), (1, 1, 0), (1, 1, 1)),
        )


if __name__ == "__main__":
    unittest.main()
