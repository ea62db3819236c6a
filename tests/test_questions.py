import unittest

from doorslips.errors import UnknownKind
from doorslips.kinds import after
from doorslips.pairs import pairs
from doorslips.questions import doors, questions
from tests.helper import (
    EIGHT, FOUR, GATE, GREATEST, HOUSES, LAST, NO_GOERS, ORDERS, SUM, TURN, WINDOW, Case, all_cases, all_uses, cells,
    door_of, later_kinds, question_of, rows_of, some_houses,
)

# With so many comers and so many later ones at most, the cases of these houses have all questions of each use.
ENOUGH = ((GREATEST, 2, 2), (LAST, 2, 1), (SUM, 4, 2), (WINDOW, 4, 2), (TURN, 6, 3))


class QuestionsCase(Case):
    def of(self, house, use, kind, door):
        """Return the questions, which ascend, each once, and are pairs of contents."""
        found = self.answer(questions, house, use, kind, door)
        self.are_pairs_of_contents(house, found)
        return found

    def are(self, house, use, kind, expected):
        """Check the questions at the doors of one cell: a dict by the values."""
        for value, asked in expected.items():
            with self.subTest(house=house, use=use, kind=kind, door=value):
                self.same(self.of(house, use, kind, (value,)), cells(*asked))


class TestDoors(Case):
    def are(self, house, expected):
        with self.subTest(house=house):
            self.same(self.answer(doors, house), expected)

    def test_as_they_stand(self):
        self.are(GREATEST, ((0,), (1,), (2,)))
        self.are(TURN, ((0, 0), (0, 1), (0, 2), (1, 0), (1, 1), (1, 2)))
        self.are(EIGHT, tuple((value,) for value in range(8)))
        self.are(((2,), (1,), ((),)), ((1,),))

    def test_contents_that_comers_do_not_make_are_none(self):
        self.are(((8,), (3,), ((("up", 0, 2),),)), ((3,), (5,), (7,)))
        self.are(((8,), (1,), ((("add", 0, 4),),)), ((1,), (5,)))
        self.are(((6,), (5,), ((("add", 0, 4),), (("lower", 0, 4),))), ((0,), (1,), (2,), (3,), (4,), (5,)))
        self.are(((6,), (4,), ((("add", 0, 4),), (("lower", 0, 4),))), ((0,), (2,), (4,)))
        self.are(((2, 2), (0, 1), ((("swap", 0, 1),),)), ((0, 1), (1, 0)))
        self.are(((3,), (2,), ((("set", 0, 0),), (("when", 0, 1, 1, ("set", 0, 1)),))), ((0,), (2,)))
        self.are(((2, 2, 2), (0, 0, 0), ((("set", 1, 1),),)), ((0, 0, 0), (0, 1, 0)))

    def test_all_that_comers_make_of_begin(self):
        for house in HOUSES + tuple(some_houses(40, "doors")):
            with self.subTest(house=house):
                kinds = range(len(house[2]))
                given = {house[1]}
                for _ in range(8):
                    given |= {after(house, content, (kind,)) for content in given for kind in kinds}
                found = self.answer(doors, house)
                self.same(found, tuple(sorted(given)))
                self.assertLessEqual({after(house, house[1], comers) for comers in rows_of(kinds, 3)}, set(found))

    def test_first_parts_of_pairs(self):
        for house in HOUSES:
            for use in all_uses(house):
                self.assertEqual(doors(house), tuple(sorted({first for first, _ in pairs(house, use)})))

    def test_by_name(self):
        self.same(self.answer(doors, house=((2,), (1,), ((),))), ((1,),))


class TestQuestionsAsTheyStand(QuestionsCase):
    def test_newest(self):
        self.are(GREATEST, ("newest", (0, 1, 2)), 0, {0: [(0, 0)], 1: [(1, 1)], 2: [(2, 2)]})
        self.are(GREATEST, ("newest", (0, 1, 2)), 1, {0: [(1, 0)], 1: [(1, 1)], 2: [(2, 2)]})
        self.are(GREATEST, ("newest", (0, 1, 2)), 2, {0: [(2, 0)], 1: [(2, 1)], 2: [(2, 2)]})

    def test_newest_with_later_ones_that_are_no_goers(self):
        self.are(GREATEST, ("newest", (2,)), 2, {0: [(2, 0), (2, 1)], 1: [(2, 1)], 2: [(2, 2)]})
        self.are(GREATEST, ("newest", (1,)), 1, {0: [(1, 0), (2, 2)], 1: [(1, 1), (2, 2)], 2: [(2, 2)]})
        self.are(LAST, ("newest", (0,)), 0, {0: [(1, 0), (2, 2)], 1: [(1, 1), (2, 2)], 2: [(1, 2), (2, 2)]})
        self.are(LAST, ("newest", (0, 1)), 0, {0: [(1, 0)], 1: [(1, 1)], 2: [(1, 2)]})

    def test_oldest(self):
        all_gone = [(1, 0), (1, 1), (2, 2)]
        self.are(GREATEST, ("oldest", (0, 1, 2)), 1, {0: all_gone, 1: all_gone, 2: all_gone})
        self.are(GREATEST, ("oldest", (1,)), 1, {0: all_gone, 1: all_gone, 2: [(2, 2)]})
        self.are(LAST, ("oldest", (0,)), 0, {
            0: [(1, 0), (1, 1), (2, 2)], 1: [(1, 0), (1, 1), (1, 2), (2, 2)], 2: [(1, 1), (1, 2), (2, 2)],
        })

    def test_any(self):
        self.are(GREATEST, ("any", (0, 1, 2)), 2, {
            0: [(2, 0), (2, 1), (2, 2)], 1: [(2, 0), (2, 1), (2, 2)], 2: [(2, 0), (2, 1), (2, 2)],
        })
        self.are(GREATEST, ("any", (1,)), 1, {
            0: [(1, 0), (1, 1), (2, 2)], 1: [(1, 0), (1, 1), (2, 2)], 2: [(2, 2)],
        })
        self.are(SUM, ("any", (0,)), 0, {value: [(0, 2), (1, 0), (2, 1)] for value in range(3)})

    def test_a_door_with_one_pair_alone(self):
        house = ((4,), (0,), ((("when", 0, 1, 2, ("up", 0, 1)),), (("when", 0, 0, 0, ("set", 0, 1)),)))
        use = ("any", (0,))
        # Nobody comes to 1 or 0 but with all of the rest, so there is one pair at each of these.
        self.same(
            self.answer(pairs, house, use), cells((0, 0), (1, 1), (2, 1), (2, 2), (3, 1), (3, 2), (3, 3))
        )
        later = [(3, 3)]
        self.are(house, use, 0, {0: [(0, 0), (1, 1), (2, 2)] + later, 1: [(2, 1), (3, 2)] + later})
        self.are(house, use, 0, {2: [(2, 1), (3, 2)] + later, 3: [(2, 1), (3, 2)] + later})
        self.are(house, ("newest", (0,)), 0, {0: [(0, 0), (1, 1)], 1: [(2, 1)], 2: [(3, 2)], 3: [(3, 3)]})

    def test_a_kind_without_steps(self):
        for order in ORDERS:
            self.are(((2,), (1,), ((),)), (order, (0,)), 0, {1: [(1, 1)]})

    def test_by_name(self):
        self.same(
            self.answer(questions, door=(0,), kind=1, use=("newest", (0, 1, 2)), house=GREATEST), cells((1, 0))
        )


class TestQuestionsOfAllCases(QuestionsCase):
    def by_door(self, house, use, kind, cases):
        """Return a dict: the set of the questions of these cases, for each door of one."""
        found = {}
        for case in cases:
            found.setdefault(door_of(house, case), set()).add(question_of(house, kind, case))
        return found

    def test_houses_whose_few_comers_and_later_ones_tell_all(self):
        for house, comers, later in ENOUGH:
            for use in all_uses(house):
                cases = all_cases(house, use, comers, later)
                for kind in use[1]:
                    with self.subTest(house=house, use=use, kind=kind):
                        given = self.by_door(house, use, kind, cases)
                        self.assertEqual(tuple(sorted(given)), doors(house))
                        for door, asked in given.items():
                            self.assertEqual(self.of(house, use, kind, door), tuple(sorted(asked)))

    def test_houses_of_all_sizes(self):
        for house in HOUSES + tuple(some_houses(10, "cases")):
            for use in all_uses(house):
                cases = all_cases(house, use, 2, 1)
                for kind in use[1]:
                    with self.subTest(house=house, use=use, kind=kind):
                        for door, asked in self.by_door(house, use, kind, cases).items():
                            self.assertLessEqual(asked, set(self.of(house, use, kind, door)))

    def test_no_question_but_what_is_come_to(self):
        for house in HOUSES + tuple(some_houses(10, "questions")):
            for use in all_uses(house):
                kinds = later_kinds(house, use)
                for kind in use[1]:
                    with self.subTest(house=house, use=use, kind=kind):
                        for door in doors(house):
                            rests = [second for first, second in pairs(house, use) if first == door]
                            given = {(after(house, rest, (kind,)), rest) for rest in rests}
                            self.assertTrue(given)
                            for _ in range(64):
                                more = {
                                    (after(house, one, (later,)), after(house, two, (later,)))
                                    for one, two in given for later in kinds
                                } - given
                                if not more:
                                    break
                                given |= more
                            self.assertEqual(self.of(house, use, kind, door), tuple(sorted(given)))


class TestUnknownKinds(Case):
    def test_kinds_that_are_no_goers(self):
        for house in (TURN, GREATEST, GATE, FOUR):
            for use in all_uses(house):
                for kind in range(-4, 8):
                    with self.subTest(house=house, use=use, kind=kind):
                        if kind in use[1]:
                            self.answer(questions, house, use, kind, house[1])
                        else:
                            error = self.error(UnknownKind, questions, house, use, kind, house[1])
                            self.same(error.index, kind)

    def test_values_of_any_other_kind(self):
        for house in (LAST, FOUR):
            for use in all_uses(house):
                for value in NO_GOERS:
                    with self.subTest(use=use, value=repr(value)[:80]):
                        self.assertIs(self.error(UnknownKind, questions, house, use, value, house[1]).index, value)


if __name__ == "__main__":
    unittest.main()
