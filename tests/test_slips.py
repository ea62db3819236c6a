import itertools
import random
import unittest

from doorslips.clashes import clashes
from doorslips.errors import UnknownKind
from doorslips.questions import doors
from doorslips.slips import classes, least_slips, parted
from tests.helper import (
    EIGHT, FOUR, GATE, GREATEST, HOUSES, LAST, NO_GOERS, ORDERS, SUM, TURN, WINDOW, Case, all_uses, some_houses,
)
from tests.keeping import least_by_all_ways, ways_to_part

SEVEN = ((7,), (0,), ((("set", 0, 0),), (("add", 0, 1),)))
# The first kind clears all cells, so that by "newest" all doors must be told apart; the others turn one cell each.
CUBE = ((2, 2, 2), (0, 0, 0), (
    (("set", 0, 0), ("set", 1, 0), ("set", 2, 0)), (("add", 0, 1),), (("add", 1, 1),), (("add", 2, 1),),
))
# At 0, 1, 2 and 3 each; whoever comes leaves nothing but whether the value was odd.
PARITY = ((4, 2), (0, 0), ((("when", 0, 1, 1, ("set", 0, 3)), ("when", 0, 2, 2, ("set", 0, 0))), (("add", 0, 1),)))


class SlipsCase(Case):
    def least(self, house, use, kind, expected):
        with self.subTest(house=house, use=use, kind=kind):
            self.same(self.answer(least_slips, house, use, kind), expected)

    def is_right(self, house, use, kind, least):
        """Check the classes against the clashes of the doors and the least number of slips."""
        found = self.answer(classes, house, use, kind)
        odds = clashes(house, use, kind)
        self.assertIs(type(found), tuple)
        self.assertEqual([type(row) for row in found], [tuple] * len(found))
        self.assertEqual(tuple(door for door, _ in found), doors(house))
        slips = [slip for _, slip in found]
        self.assertEqual({type(slip) for slip in slips}, {int})
        self.assertEqual(set(slips), set(range(least)))
        given = dict(found)
        for one, two in odds:
            self.assertNotEqual(given[one], given[two])


class TestAsTheyStand(SlipsCase):
    def test_newest(self):
        for kind, least in enumerate((1, 2, 3)):
            self.least(GREATEST, ("newest", (0, 1, 2)), kind, least)
        self.least(LAST, ("newest", (0,)), 0, 3)
        self.least(LAST, ("newest", (0, 1)), 1, 3)
        self.least(EIGHT, ("newest", (0,)), 0, 8)
        self.least(EIGHT, ("newest", (0, 1)), 0, 8)
        self.least(EIGHT, ("newest", (1,)), 1, None)
        self.least(SEVEN, ("newest", (0, 1)), 0, 7)
        self.least(EIGHT, ("newest", (0, 1)), 1, 1)
        self.least(WINDOW, ("newest", (0, 1)), 0, 2)
        self.least(WINDOW, ("newest", (0, 1)), 1, 2)

    def test_eight_contents_and_four_kinds(self):
        self.least(CUBE, ("newest", (0, 1, 2, 3)), 0, 8)
        self.least(CUBE, ("newest", (0,)), 0, 8)
        for kind in (1, 2, 3):
            self.least(CUBE, ("newest", (0, 1, 2, 3)), kind, 1)
            for order in ORDERS:
                # One who clears all cells and stays takes away what is to be taken back.
                self.least(CUBE, (order, (1, 2, 3)), kind, None)

    def test_sums_need_one_slip(self):
        for use in all_uses(SUM):
            for kind in use[1]:
                self.least(SUM, use, kind, 1)

    def test_never(self):
        self.least(GREATEST, ("any", (0, 1, 2)), 2, None)
        self.least(GREATEST, ("newest", (2,)), 2, None)
        self.least(LAST, ("oldest", (0, 1)), 0, None)
        self.least(TURN, ("any", (1,)), 1, None)
        self.least(EIGHT, ("any", (0, 1)), 0, None)

    def test_some_doors_in_one_class(self):
        self.least(TURN, ("any", (0,)), 0, 2)
        self.least(PARITY, ("newest", (0, 1)), 0, 2)
        self.least(PARITY, ("newest", (0, 1)), 1, 1)

    def test_one_door(self):
        for order in ORDERS:
            house = ((2,), (1,), ((),))
            self.least(house, (order, (0,)), 0, 1)
            self.same(self.answer(classes, house, (order, (0,)), 0), (((1,), 0),))

    def test_classes_that_can_be_but_so(self):
        self.same(self.answer(classes, GREATEST, ("newest", (0, 1, 2)), 0), (((0,), 0), ((1,), 0), ((2,), 0)))
        self.assertIsNone(self.answer(classes, GREATEST, ("any", (0, 1, 2)), 2))
        found = dict(self.answer(classes, GREATEST, ("newest", (0, 1, 2)), 1))
        self.assertNotEqual(found[(0,)], found[(1,)])

    def test_by_name(self):
        self.same(self.answer(least_slips, kind=1, use=("newest", (0, 1, 2)), house=GREATEST), 2)
        self.same(self.answer(classes, kind=0, use=("any", (0,)), house=((2,), (1,), ((),))), (((1,), 0),))


class TestAllWays(SlipsCase):
    def test_as_all_ways_to_part_the_doors_tell(self):
        met = {}
        for house in HOUSES + (SEVEN, CUBE, PARITY) + tuple(some_houses(60, "slips")):
            for use in all_uses(house):
                for kind in use[1]:
                    least = least_by_all_ways(house, use, kind)
                    met[least] = met.get(least, 0) + 1
                    self.least(house, use, kind, least)
                    with self.subTest(house=house, use=use, kind=kind):
                        never = any(one == two for one, two in clashes(house, use, kind))
                        self.assertEqual(least is None, never)
                        if least is None:
                            self.assertIsNone(self.answer(classes, house, use, kind))
                        else:
                            self.is_right(house, use, kind, least)
        # All numbers that there can be have been met.
        self.assertEqual(set(met), {None, 1, 2, 3, 4, 5, 6, 7, 8})


class TestParted(Case):
    """The parting of doors by clashes of any shape, also such as no drawn house has."""

    def parts(self, many, odds):
        doors = [(number,) for number in range(many)]
        there = {((one,), (two,)): True for one, two in odds}
        fitting = [row for row in ways_to_part(many) if all(row[one] != row[two] for one, two in odds)]
        least = min(1 + max(row) for row in fitting)
        found = self.answer(parted, doors, there)
        slips = [slip for _, slip in found]
        self.assertEqual([door for door, _ in found], doors)
        self.assertEqual(set(slips), set(range(least)))
        for one, two in odds:
            self.assertNotEqual(slips[one], slips[two])

    def test_as_all_ways_to_part_tell(self):
        draw = random.Random("parted")
        for many in (4, 5, 6, 7, 8):
            pairs = list(itertools.combinations(range(many), 2))
            for _ in range(30):
                share = draw.random()
                self.parts(many, [pair for pair in pairs if draw.random() < share])

    def test_shapes_on_which_the_first_slip_that_fits_is_not_the_best(self):
        # Each even one clashes with all odd ones but the next one: two slips, where by turns there would be four.
        crown = [(min(one, two), max(one, two)) for one in (0, 2, 4, 6) for two in (1, 3, 5, 7) if two != one + 1]
        self.parts(8, crown)
        ring = [(number, number + 1) for number in range(6)] + [(0, 6)]
        self.parts(7, ring)
        wheel = ring + [(number, 7) for number in range(7)]
        self.parts(8, wheel)

    def test_a_door_that_clashes_with_itself(self):
        self.assertIsNone(self.answer(parted, [(0,), (1,)], {((1,), (1,)): True}))


class TestUnknownKinds(Case):
    def test_kinds_that_are_no_goers(self):
        for house in (TURN, GREATEST, GATE, FOUR):
            for use in all_uses(house):
                for kind in range(-4, 8):
                    for function in (least_slips, classes):
                        with self.subTest(function=function, house=house, use=use, kind=kind):
                            if kind in use[1]:
                                self.answer(function, house, use, kind)
                            else:
                                self.same(self.error(UnknownKind, function, house, use, kind).index, kind)

    def test_values_of_any_other_kind(self):
        for house in (LAST, FOUR):
            for use in all_uses(house):
                for value in NO_GOERS:
                    for function in (least_slips, classes):
                        with self.subTest(function=function, use=use, value=repr(value)[:80]):
                            self.assertIs(self.error(UnknownKind, function, house, use, value).index, value)


if __name__ == "__main__":
    unittest.main()
