import itertools
import random
import unittest

from doorslips.clashes import never_cases
from doorslips.errors import InvalidUse, InvalidWorths
from doorslips.sets import best_goers, best_worth, sets_that_go
from doorslips.slips import least_slips
from doorslips.uses import all_sets
from tests.helper import (
    EIGHT, FOUR, GREATEST, HOUSES, HUGE, LAST, NOWHERE, ORDERS, SUM, TURN, Case, some_houses,
)

# Whoever comes clears the cell, and each other kind makes it something else: by "any" none of them can go.
STUCK = ((2,), (0,), ((("set", 0, 0),), (("set", 0, 1),)))
NO_ORDERS = NOWHERE + ("Any", "old", "any ", "", 0, 1, ("any",), ["any"], ORDERS, ("any", (0,)))


def least_sum(house, order, goers):
    """Return the sum of the least numbers of a set, or None if one of it is never to go."""
    leasts = [least_slips(house, (order, goers), kind) for kind in goers]
    return None if None in leasts else sum(leasts)


def best_told(house, order, worths, most):
    """Return the best as point 14 tells it."""
    worth = [
        sum(worths[kind] for kind in goers) for goers in all_sets(house)
        if least_sum(house, order, goers) is not None and least_sum(house, order, goers) <= most
    ]
    return max(worth, default=None)


class TestSetsThatGo(Case):
    def test_as_they_stand(self):
        for order, expected in (("any", ((0,),)), ("oldest", ((0,), (0, 1))), ("newest", ((0,), (0, 1), (1,)))):
            self.same(self.answer(sets_that_go, TURN, order), expected)
        for order in ORDERS:
            self.same(self.answer(sets_that_go, SUM, order), all_sets(SUM))
        self.same(self.answer(sets_that_go, LAST, "newest"), ((0,), (0, 1), (1,)))

    def test_none(self):
        for order in ("any", "oldest"):
            self.same(self.answer(sets_that_go, STUCK, order), ())

    def test_each_goer_of_each_set(self):
        met = set()
        for house in HOUSES + tuple(some_houses(30, "sets")):
            for order in ORDERS:
                with self.subTest(house=house, order=order):
                    found = self.answer(sets_that_go, house, order)
                    self.assertIs(type(found), tuple)
                    self.assertEqual(list(found), sorted(set(found)))
                    for goers in all_sets(house):
                        use = (order, goers)
                        goes = all(never_cases(house, use, kind) is None for kind in goers)
                        self.assertEqual(goers in found, goes)
                        met.add((order, len(goers), goes))
        # By "newest", where all kinds are goers nobody comes behind who stays: there is one question at each door.
        self.assertEqual(met, set(itertools.product(ORDERS, (1, 2, 3, 4), (True, False))) - {("newest", 4, False)})

    def test_by_name(self):
        self.same(self.answer(sets_that_go, order="any", house=TURN), ((0,),))


class BestCase(Case):
    def best(self, house, order, worths, most, expected):
        """Check both functions: the set has the worth, can go, and is within the bound."""
        with self.subTest(house=house, order=order, worths=worths, most=most):
            self.same(self.answer(best_worth, house, order, worths, most), expected)
            goers = self.answer(best_goers, house, order, worths, most)
            if expected is None:
                self.assertIsNone(goers)
                return
            self.assertIs(type(goers), tuple)
            self.assertIn(goers, all_sets(house))
            self.assertEqual(sum(worths[kind] for kind in goers), expected)
            slips = least_sum(house, order, goers)
            self.assertIsNotNone(slips)
            self.assertLessEqual(slips, most)


class TestBest(BestCase):
    def test_as_they_stand(self):
        self.best(TURN, "oldest", (5, 3), 2, 8)
        self.best(TURN, "oldest", (5, 3), 1, None)
        self.best(TURN, "any", (5, 3), 2, 5)
        self.best(TURN, "any", (5, 3), 1, None)
        # The second kind alone would do by one slip less, but by "any" it cannot go.
        self.best(TURN, "any", (0, 99), 32, 0)

    def test_the_slips_of_a_set_are_counted_in_its_own_use(self):
        # By "newest", who clears the cell needs a slip for each content, alone and beside the other one.
        self.best(EIGHT, "newest", (9, 1), 8, 9)
        self.best(EIGHT, "newest", (9, 1), 9, 10)
        self.best(EIGHT, "newest", (9, 1), 7, None)
        self.assertEqual([least_sum(TURN, "oldest", goers) for goers in all_sets(TURN)], [2, 2, None])

    def test_bounds(self):
        for house in HOUSES:
            for order in ORDERS:
                worths = tuple(range(1, len(house[2]) + 1))
                self.best(house, order, worths, 0, None)
                self.best(house, order, worths, 32, best_told(house, order, worths, 32))
                for goers in all_sets(house):
                    slips = least_sum(house, order, goers)
                    if slips is not None:
                        for most in (slips - 1, slips, slips + 1):
                            self.best(house, order, worths, most, best_told(house, order, worths, most))

    def test_worths_at_both_bounds(self):
        self.best(SUM, "any", (0, 0), 32, 0)
        self.best(SUM, "any", (0, 0), 0, None)
        self.best(SUM, "any", (99, 99), 2, 198)
        self.best(SUM, "any", (99, 99), 1, 99)
        self.best(SUM, "any", (0, 99), 1, 99)
        self.best(SUM, "any", (99, 0), 1, 99)
        four = ((2,), (0,), ((),) * 4)
        for order in ORDERS:
            self.best(four, order, (99,) * 4, 32, 396)
            self.best(four, order, (99,) * 4, 4, 396)
            self.best(four, order, (99,) * 4, 3, 297)
            self.best(four, order, (1, 2, 4, 8), 2, 12)

    def test_none_can_go(self):
        for order in ("any", "oldest"):
            self.best(STUCK, order, (99, 99), 32, None)
            self.best(STUCK, order, (0, 0), 32, None)

    def test_compared_with_all_sets(self):
        draw = random.Random("best")
        bests = set()
        for house in HOUSES + tuple(some_houses(24, "best")):
            for order in ORDERS:
                for high in (1, 3, 99):
                    worths = tuple(draw.randint(0, high) for _ in house[2])
                    most = draw.choice((0, 1, 2, 3, 5, 8, 16, 32))
                    expected = best_told(house, order, worths, most)
                    bests.add(expected is None)
                    self.best(house, order, worths, most, expected)
        self.assertEqual(bests, {True, False})

    def test_by_name(self):
        self.same(self.answer(best_worth, most=2, worths=(5, 3), order="oldest", house=TURN), 8)
        self.same(self.answer(best_goers, most=2, worths=(5, 3), order="oldest", house=TURN), (0, 1))


class TestWrongArguments(Case):
    def test_orders(self):
        for order in NO_ORDERS:
            with self.subTest(order=repr(order)[:80]):
                self.assertEqual(vars(self.error(InvalidUse, sets_that_go, TURN, order)), {})
                for function in (best_worth, best_goers):
                    self.assertEqual(vars(self.error(InvalidUse, function, TURN, order, (1, 2), 3)), {})
                    # The order is looked at first.
                    self.error(InvalidUse, function, TURN, order, (1,), 3)
                    self.error(InvalidUse, function, TURN, order, (1, 2), -1)
                    self.error(InvalidUse, function, TURN, order, order, order)

    def wrong(self, house, worths, most):
        for function in (best_worth, best_goers):
            for order in ORDERS:
                with self.subTest(function=function, worths=repr(worths)[:80], most=repr(most)[:80]):
                    self.assertEqual(vars(self.error(InvalidWorths, function, house, order, worths, most)), {})

    def test_worths(self):
        for worth in (-1, 100, HUGE, -HUGE, True, False, None, "1", (1,), [1], {}):
            self.wrong(TURN, (worth, 1), 8)
            self.wrong(TURN, (1, worth), 8)
            self.wrong(FOUR, (1, 1, 1, worth), 8)
        for worths in ((), (1,), (1, 1, 1), [1, 1], {0: 1, 1: 1}, "11", 1, ((1, 1),)):
            self.wrong(TURN, worths, 8)
        for many in (1, 2, 4, 5):
            self.wrong(GREATEST, (1,) * many, 8)

    def test_bounds(self):
        for most in (-1, 33, HUGE, -HUGE, True, False, None, "8", (8,), [8], {8: 8}):
            self.wrong(TURN, (1, 1), most)
            self.wrong(STUCK, (1, 1), most)

    def test_values_of_any_other_kind(self):
        for value in NOWHERE:
            self.wrong(TURN, value, 8)
            self.wrong(TURN, (1, value), 8)
            self.wrong(TURN, (1, 1), value)
            self.wrong(TURN, value, value)


if __name__ == "__main__":
    unittest.main()
