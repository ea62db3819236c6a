import unittest

from doorslips.pairs import pairs
from tests.helper import (
    EIGHT, GATE, GREATEST, HOUSES, LAST, SUM, TURN, WINDOW, Case, all_cases, all_uses, cells, pair_of, some_houses,
    told_with,
)

# With so many comers at most, the cases of these houses have all pairs of each use.
ENOUGH = ((TURN, 6), (GREATEST, 2), (LAST, 2), (SUM, 4), (WINDOW, 4), (GATE, 5))


class PairsCase(Case):
    def of(self, house, use):
        """Return the pairs, which ascend, each once, and are pairs of contents."""
        found = self.answer(pairs, house, use)
        self.are_pairs_of_contents(house, found)
        self.assertIn((house[1], house[1]), found)
        return found


class TestPairsAsTheyStand(PairsCase):
    def are(self, house, use, expected):
        with self.subTest(house=house, use=use):
            self.same(self.of(house, use), expected)

    def test_all_goers(self):
        self.are(GREATEST, ("newest", (0, 1, 2)), cells((0, 0), (1, 1), (2, 2)))
        self.are(GREATEST, ("oldest", (0, 1, 2)), cells((0, 0), (1, 0), (2, 0)))
        self.are(GREATEST, ("any", (0, 1, 2)), cells((0, 0), (1, 0), (1, 1), (2, 0), (2, 1), (2, 2)))

    def test_one_goer_among_kinds_that_are_none(self):
        self.are(GREATEST, ("newest", (1,)), cells((0, 0), (1, 1), (2, 2)))
        self.are(GREATEST, ("oldest", (1,)), cells((0, 0), (1, 0), (2, 2)))
        self.are(GREATEST, ("any", (1,)), cells((0, 0), (1, 0), (1, 1), (2, 2)))
        self.are(GREATEST, ("oldest", (2,)), cells((0, 0), (1, 1), (2, 0), (2, 1)))
        self.are(GREATEST, ("any", (2,)), cells((0, 0), (1, 1), (2, 0), (2, 1), (2, 2)))

    def test_two_goers_and_a_kind_that_is_none(self):
        self.are(GREATEST, ("oldest", (0, 2)), cells((0, 0), (1, 1), (2, 0), (2, 1)))
        self.are(GREATEST, ("oldest", (1, 2)), cells((0, 0), (1, 0), (2, 0)))
        self.are(GREATEST, ("any", (0, 1)), cells((0, 0), (1, 0), (1, 1), (2, 2)))

    def test_one_who_sets_all_behind_those_who_go(self):
        self.are(LAST, ("oldest", (0,)), cells((0, 0), (1, 0), (1, 2), (2, 2)))
        self.are(LAST, ("newest", (0,)), cells((0, 0), (1, 1), (2, 2)))
        self.are(LAST, ("any", (0,)), cells((0, 0), (1, 0), (1, 1), (1, 2), (2, 2)))
        self.are(LAST, ("any", (0, 1)), cells((0, 0), (1, 0), (1, 1), (1, 2), (2, 0), (2, 1), (2, 2)))

    def test_eight_contents(self):
        each = range(8)
        self.are(EIGHT, ("newest", (0, 1)), cells(*((value, value) for value in each)))
        self.are(EIGHT, ("oldest", (0, 1)), cells(*((value, 0) for value in each)))
        self.are(EIGHT, ("oldest", (1,)), cells(*((value, 0) for value in each)))
        self.are(EIGHT, ("oldest", (0,)), cells(*((one, two) for one in each for two in each)))
        self.are(EIGHT, ("any", (0, 1)), cells(*((one, two) for one in each for two in each)))

    def test_a_begin_that_is_not_the_least_content(self):
        house = ((4,), (2,), ((("lower", 0, 1),), (("up", 0, 1),)))
        self.are(house, ("newest", (0,)), cells((1, 1), (2, 2), (3, 3)))
        self.are(house, ("oldest", (0, 1)), cells((1, 2), (2, 2), (3, 2)))
        self.are(house, ("oldest", (0,)), cells((1, 2), (1, 3), (2, 2), (2, 3), (3, 3)))

    def test_contents_that_nobody_comes_to_are_in_no_pair(self):
        house = ((2, 2, 2), (0, 0, 0), ((("set", 1, 1),),))
        low, high = (0, 0, 0), (0, 1, 0)
        self.are(house, ("newest", (0,)), ((low, low), (high, high)))
        self.are(house, ("oldest", (0,)), ((low, low), (high, low)))
        self.are(house, ("any", (0,)), ((low, low), (high, low), (high, high)))

    def test_a_kind_without_steps(self):
        for order in ("any", "oldest", "newest"):
            self.are(((2,), (1,), ((),)), (order, (0,)), cells((1, 1)))

    def test_by_name(self):
        self.same(self.answer(pairs, use=("newest", (0,)), house=((2,), (1,), ((),))), cells((1, 1)))


class TestPairsOfAllCases(PairsCase):
    def test_houses_whose_few_comers_tell_all(self):
        for house, most in ENOUGH:
            for use in all_uses(house):
                with self.subTest(house=house, use=use):
                    given = {pair_of(house, case) for case in all_cases(house, use, most, 0)}
                    self.assertEqual(self.of(house, use), tuple(sorted(given)))

    def test_houses_of_all_sizes(self):
        told = 0
        for house in some_houses(24, "pairs"):
            for use in all_uses(house):
                with self.subTest(house=house, use=use):
                    found = self.of(house, use)
                    two, three = (
                        {pair_of(house, case) for case in all_cases(house, use, most, 0)} for most in (2, 3)
                    )
                    self.assertLessEqual(three, set(found))
                    # Where the third comer brings no new pair, no further one does.
                    if two == three:
                        told += 1
                        self.assertEqual(set(found), three)
        self.assertGreater(told, 100)

    def test_with_each_pair_those_that_are_told(self):
        for house in HOUSES + tuple(some_houses(24, "told")):
            for use in all_uses(house):
                with self.subTest(house=house, use=use):
                    found = self.of(house, use)
                    for pair in found:
                        self.assertLessEqual(set(told_with(house, use, pair)), set(found))

    def test_no_pair_but_what_is_come_to(self):
        for house in HOUSES + tuple(some_houses(24, "least")):
            for use in all_uses(house):
                with self.subTest(house=house, use=use):
                    given = {(house[1], house[1])}
                    for _ in range(64):
                        given |= {other for pair in given for other in told_with(house, use, pair)}
                    self.assertEqual(self.of(house, use), tuple(sorted(given)))

    def test_by_newest_both_are_the_door(self):
        for house in HOUSES:
            for use in all_uses(house):
                if use[0] == "newest":
                    for first, second in self.of(house, use):
                        self.assertEqual(first, second)


if __name__ == "__main__":
    unittest.main()
