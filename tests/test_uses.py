import itertools
import unittest

from doorslips.errors import InvalidUse
from doorslips.uses import all_sets, require_use
from tests.helper import HUGE, NOWHERE, TURN, Case, house_of_kinds

ORDERS = ("any", "oldest", "newest")


def sets_of(many):
    """Return all sets of as many kinds, in no order that is told."""
    return [goers for size in range(1, many + 1) for goers in itertools.combinations(range(many), size)]


class UseCase(Case):
    def right(self, house, use):
        with self.subTest(kinds=len(house[2]), use=use):
            self.assertIs(self.answer(require_use, house, use), use)

    def wrong(self, house, value):
        with self.subTest(kinds=len(house[2]), value=repr(value)[:80]):
            self.assertEqual(vars(self.error(InvalidUse, require_use, house, value)), {})


class TestRightUses(UseCase):
    def test_each_order_and_each_set_of_goers(self):
        for many in (1, 2, 3, 4):
            for order, goers in itertools.product(ORDERS, sets_of(many)):
                self.right(house_of_kinds(many), (order, goers))

    def test_by_name(self):
        use = ("oldest", (0, 1))
        self.assertIs(self.answer(require_use, house=TURN, value=use), use)


class TestWrongUses(UseCase):
    def test_orders(self):
        for order in (
            "", "Any", "ANY", "any ", "an", "old", "latest", "anyoldest", "any oldest", "oldest,newest",
            ORDERS, ("any",), ["any"], 0, 1, True, None, {"any": 1}, (),
        ):
            self.wrong(TURN, (order, (0,)))
            self.wrong(TURN, (order, (0, 1)))

    def test_goers_of_right_kinds(self):
        for order in ORDERS:
            self.wrong(TURN, (order, ()))
            self.wrong(TURN, (order, (1, 0)))
            self.wrong(TURN, (order, (0, 0)))
            self.wrong(TURN, (order, (1, 1)))
            self.wrong(TURN, (order, (0, 1, 1)))
            self.wrong(TURN, (order, (0, 0, 1)))
            self.wrong(TURN, (order, (0, 1, 0)))

    def test_goers_that_do_not_ascend_or_stand_twice(self):
        for many in (1, 2, 3, 4):
            house = house_of_kinds(many)
            for size in range(6):
                for goers in itertools.product(range(many), repeat=size):
                    if goers not in sets_of(many):
                        self.wrong(house, ("any", goers))

    def test_kinds_that_the_house_does_not_have(self):
        for many in (1, 2, 3, 4):
            house = house_of_kinds(many)
            for goers in ((many,), (0, many), (-1,), (-1, 0), (-many,), (HUGE,), (0, HUGE), (-HUGE,), (-HUGE, 0)):
                self.wrong(house, ("oldest", goers))
            self.wrong(house, ("newest", tuple(range(many + 1))))
            self.wrong(house, ("newest", tuple(range(-1, many))))

    def test_booleans_and_others_in_the_place_of_kinds(self):
        for goers in (
            (True,), (False,), (False, True), (0, True), (False, 1), ("0",), (0, "1"), (None,), (0, None),
            ((0,),), ([0],), ({},), (0, ()), (0, (1,)), ("any",),
        ):
            self.wrong(TURN, ("any", goers))

    def test_lists_in_the_place_of_tuples(self):
        for use in (["any", (0,)], ["any", [0]], ("any", [0]), ("any", [0, 1]), ("any", []), [("any", (0,))]):
            self.wrong(TURN, use)

    def test_a_part_too_few_or_too_many(self):
        for use in (
            (), ("any",), ((0,),), ("any", (0,), (1,)), ("any", (0,), None), ("any", "any", (0,)), ("any", 0, 1),
            (("any", (0,)),), ((0,), "any"), ("any", 0), ("any", "0"), ("any", None), ("any", {0: 0}), ("any", "any"),
        ):
            self.wrong(TURN, use)

    def test_values_of_any_other_kind(self):
        for value in NOWHERE + ("any", "oldest", 0, 1, "an", {"any": (0,)}, {0: "any", 1: (0,)}, TURN):
            self.wrong(TURN, value)
        # (0,) * 100000 and the like are tried here as the goers and as the order.
        for value in NOWHERE:
            self.wrong(TURN, ("any", value))
            self.wrong(TURN, (value, (0,)))
            self.wrong(TURN, ("any", (0, value)))


class TestAllSets(Case):
    def test_as_they_stand(self):
        for many, expected in (
            (1, ((0,),)),
            (2, ((0,), (0, 1), (1,))),
            (3, ((0,), (0, 1), (0, 1, 2), (0, 2), (1,), (1, 2), (2,))),
            (4, (
                (0,), (0, 1), (0, 1, 2), (0, 1, 2, 3), (0, 1, 3), (0, 2), (0, 2, 3), (0, 3),
                (1,), (1, 2), (1, 2, 3), (1, 3), (2,), (2, 3), (3,),
            )),
        ):
            with self.subTest(many=many):
                found = self.answer(all_sets, house_of_kinds(many))
                self.same(found, expected)
                self.assertEqual(list(found), sorted(sets_of(many)))
                self.assertNotIn((), found)

    def test_by_name(self):
        self.same(all_sets(house=house_of_kinds(2)), ((0,), (0, 1), (1,)))


if __name__ == "__main__":
    unittest.main()
