import unittest

from doorslips.clashes import clashes, never_cases
from doorslips.errors import UnknownKind
from doorslips.questions import doors, questions
from tests.helper import (
    EIGHT, FOUR, GATE, GREATEST, HOUSES, LAST, NO_GOERS, ORDERS, SUM, TURN, WINDOW, Case, all_cases, all_gone,
    all_uses, cells, door_of, later_kinds, question_of, some_houses,
)


def at_odds(first, second):
    """Tell whether some of the first questions and of the second have one present, and different wanted contents."""
    return any(one[0] == two[0] and one[1] != two[1] for one in first for two in second)


class ClashesCase(Case):
    def are(self, house, use, kind, expected):
        with self.subTest(house=house, use=use, kind=kind):
            self.same(self.answer(clashes, house, use, kind), expected)


class TestClashes(ClashesCase):
    def test_two_different_doors(self):
        use = ("newest", (0, 1, 2))
        self.are(GREATEST, use, 1, cells((0, 1)))
        self.are(GREATEST, use, 2, cells((0, 1), (0, 2), (1, 2)))
        self.are(LAST, ("newest", (0,)), 0, cells((0, 1), (0, 2), (1, 2)))
        self.are(LAST, ("newest", (1,)), 1, cells((0, 1), (0, 2), (1, 2)))
        eight = tuple((one, two) for one in range(8) for two in range(one + 1, 8))
        self.are(EIGHT, ("newest", (0,)), 0, cells(*eight))

    def test_a_door_with_itself(self):
        # At 1, the one that raises to 1 wants 0 or 1 by whether the one ahead of it has gone.
        self.are(GREATEST, ("any", (1,)), 1, cells((0, 0), (0, 1), (1, 1)))
        self.are(LAST, ("any", (0,)), 0, cells((0, 0), (0, 1), (0, 2), (1, 1), (1, 2), (2, 2)))
        self.are(LAST, ("oldest", (1,)), 1, cells((0, 0), (0, 1), (0, 2), (1, 1), (1, 2), (2, 2)))

    def test_only_some_doors_with_themselves(self):
        self.are(GREATEST, ("newest", (2,)), 2, cells((0, 0), (0, 1), (0, 2), (1, 2)))
        # Behind a door of 2, none that raises to 1 makes any difference.
        self.are(GREATEST, ("oldest", (1,)), 1, cells((0, 0), (0, 1), (1, 1)))

    def test_none(self):
        self.are(GREATEST, ("newest", (0, 1, 2)), 0, ())
        for use in all_uses(SUM):
            for kind in use[1]:
                self.are(SUM, use, kind, ())
        for order in ORDERS:
            self.are(((2,), (1,), ((),)), (order, (0,)), 0, ())

    def test_each_door_of_some_with_each_one_of_the_others(self):
        # Whether the first cell was set already must be noted; the second one does not tell it.
        house = ((2, 3), (0, 0), ((("add", 1, 1),), (("set", 0, 1),)))
        self.are(house, ("any", (0,)), 0, ())
        self.are(house, ("newest", (1,)), 1, (
            ((0, 0), (1, 0)), ((0, 0), (1, 1)), ((0, 0), (1, 2)), ((0, 1), (1, 0)), ((0, 1), (1, 1)), ((0, 1), (1, 2)),
            ((0, 2), (1, 0)), ((0, 2), (1, 1)), ((0, 2), (1, 2)),
        ))

    def test_as_the_questions_tell(self):
        for house in HOUSES + tuple(some_houses(24, "clashes")):
            for use in all_uses(house):
                for kind in use[1]:
                    asked = [(door, questions(house, use, kind, door)) for door in doors(house)]
                    expected = [
                        (one, two) for one, first in asked for two, second in asked
                        if one <= two and at_odds(first, second)
                    ]
                    self.are(house, use, kind, tuple(sorted(expected)))

    def test_as_all_cases_of_few_comers_tell(self):
        for house, comers, later in ((GREATEST, 2, 2), (LAST, 2, 1), (SUM, 3, 1), (WINDOW, 4, 2)):
            for use in all_uses(house):
                cases = all_cases(house, use, comers, later)
                for kind in use[1]:
                    asked = {(door_of(house, case), question_of(house, kind, case)) for case in cases}
                    expected = {
                        (one, two) for one, first in asked for two, second in asked
                        if one <= two and at_odds((first,), (second,))
                    }
                    self.are(house, use, kind, tuple(sorted(expected)))

    def test_by_name(self):
        found = self.answer(clashes, kind=1, use=("newest", (0, 1, 2)), house=GREATEST)
        self.same(found, cells((0, 1)))


class TestNeverCases(ClashesCase):
    def is_case(self, house, use, case):
        """Check that a value is a case of the use, with no more comers and later ones than it may have on paper."""
        self.assertIs(type(case), tuple)
        self.assertEqual(len(case), 3)
        for part in case:
            self.assertIs(type(part), tuple)
            self.assertEqual({type(number) for number in part} - {int}, set())
            self.assertLessEqual(len(part), 64)
        comers, gone, later = case
        self.assertLessEqual(set(comers), set(range(len(house[2]))))
        self.assertLessEqual(set(later), set(later_kinds(house, use)))
        self.assertEqual(list(gone), sorted(set(gone)))
        self.assertLessEqual(set(gone), {index for index, comer in enumerate(comers) if comer in use[1]})
        if use[0] != "any":
            self.assertEqual([gone], all_gone(use, comers))

    def is_never(self, house, use, kind):
        """Check the two cases against each other, by the steps of the house."""
        found = self.answer(never_cases, house, use, kind)
        self.assertIs(type(found), tuple)
        self.assertEqual(len(found), 2)
        for case in found:
            self.is_case(house, use, case)
        one, two = (question_of(house, kind, case) for case in found)
        self.assertEqual(door_of(house, found[0]), door_of(house, found[1]))
        self.assertEqual(one[0], two[0])
        self.assertNotEqual(one[1], two[1])

    def test_never_to_go(self):
        for house, use, kind in (
            (GREATEST, ("any", (0, 1, 2)), 1), (GREATEST, ("any", (1,)), 1), (GREATEST, ("oldest", (1, 2)), 2),
            (GREATEST, ("newest", (2,)), 2), (LAST, ("any", (0,)), 0), (LAST, ("oldest", (0, 1)), 0),
            (TURN, ("any", (1,)), 1), (TURN, ("any", (0, 1)), 1), (TURN, ("oldest", (1,)), 1),
            (EIGHT, ("any", (0, 1)), 0), (EIGHT, ("oldest", (0,)), 0), (EIGHT, ("any", (1,)), 1),
        ):
            with self.subTest(house=house, use=use, kind=kind):
                self.is_never(house, use, kind)

    def test_never_by_many_comers_or_many_later_ones(self):
        # At 6 alone the entry makes any difference, and one more who comes behind it takes that away again.
        far = ((8,), (0,), ((("when", 0, 6, 6, ("set", 0, 7)),), (("up", 0, 1),)))
        # It makes a difference at 0 alone, which only shows to be lost when the greatest value is come to.
        late = ((8,), (0,), ((("when", 0, 0, 0, ("set", 0, 1)),), (("up", 0, 1),)))
        for house, comers, later in ((far, (6, 6), (0, 1)), (late, (0, 0), (6, 7))):
            with self.subTest(house=house):
                self.is_never(house, ("newest", (0,)), 0)
                found = self.answer(never_cases, house, ("newest", (0,)), 0)
                self.assertEqual(tuple(sorted(case[0].count(1) for case in found)), comers)
                for many, least in zip(sorted(case[2].count(1) for case in found), later):
                    self.assertGreaterEqual(many, least)

    def test_none(self):
        for house, use in (
            (GREATEST, ("newest", (0, 1, 2))), (LAST, ("newest", (0,))), (SUM, ("any", (0, 1))),
            (SUM, ("oldest", (1,))), (EIGHT, ("newest", (0, 1))), (TURN, ("oldest", (0, 1))), (TURN, ("any", (0,))),
            (TURN, ("newest", (1,))),
            (((2,), (1,), ((),)), ("any", (0,))),
        ):
            for kind in use[1]:
                with self.subTest(house=house, use=use, kind=kind):
                    self.assertIsNone(self.answer(never_cases, house, use, kind))

    def test_none_exactly_if_no_door_clashes_with_itself(self):
        many = {True: 0, False: 0}
        for house in HOUSES + tuple(some_houses(60, "never")):
            for use in all_uses(house):
                for kind in use[1]:
                    with self.subTest(house=house, use=use, kind=kind):
                        never = any(one == two for one, two in clashes(house, use, kind))
                        many[never] += 1
                        if never:
                            self.is_never(house, use, kind)
                        else:
                            self.assertIsNone(self.answer(never_cases, house, use, kind))
        self.assertGreater(min(many.values()), 100)

    def test_by_name(self):
        self.assertIsNone(self.answer(never_cases, kind=1, use=("newest", (0, 1, 2)), house=GREATEST))


class TestUnknownKinds(Case):
    def test_kinds_that_are_no_goers(self):
        for house in (TURN, GREATEST, GATE, FOUR):
            for use in all_uses(house):
                for kind in range(-4, 8):
                    for function in (clashes, never_cases):
                        with self.subTest(function=function, house=house, use=use, kind=kind):
                            if kind in use[1]:
                                self.answer(function, house, use, kind)
                            else:
                                self.same(self.error(UnknownKind, function, house, use, kind).index, kind)

    def test_values_of_any_other_kind(self):
        for house in (LAST, FOUR):
            for use in all_uses(house):
                for value in NO_GOERS:
                    for function in (clashes, never_cases):
                        with self.subTest(function=function, use=use, value=repr(value)[:80]):
                            self.assertIs(self.error(UnknownKind, function, house, use, value).index, value)


if __name__ == "__main__":
    unittest.main()
