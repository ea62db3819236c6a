import itertools
import unittest

from doorslips.houses import contents
from doorslips.kinds import after, table
from tests.helper import ALL_SIZES, TURN, Case, house_of, house_of_kinds


class KindsCase(Case):
    def makes(self, house, content, comers, expected):
        with self.subTest(house=house, content=content, comers=comers):
            self.same(self.answer(after, house, content, comers), expected)

    def steps_make(self, sizes, steps, content, expected):
        self.makes(house_of(*steps, sizes=sizes), content, (0,), expected)


class TestEachWord(KindsCase):
    def test_words_of_one_cell_as_they_stand(self):
        for step, before, expected in (
            (("set", 0, 0), 4, 0), (("set", 0, 4), 0, 4), (("set", 0, 2), 2, 2),
            (("add", 0, 1), 0, 1), (("add", 0, 1), 3, 4), (("add", 0, 1), 4, 0), (("add", 0, 4), 0, 4),
            (("add", 0, 4), 1, 0), (("add", 0, 4), 4, 3), (("add", 0, 2), 4, 1),
            (("up", 0, 1), 0, 1), (("up", 0, 1), 3, 4), (("up", 0, 1), 4, 4), (("up", 0, 4), 0, 4),
            (("up", 0, 4), 1, 4), (("up", 0, 4), 4, 4), (("up", 0, 2), 3, 4),
            (("raise", 0, 2), 1, 2), (("raise", 0, 2), 2, 2), (("raise", 0, 2), 3, 3), (("raise", 0, 0), 0, 0),
            (("raise", 0, 4), 0, 4), (("raise", 0, 0), 4, 4),
            (("lower", 0, 2), 1, 1), (("lower", 0, 2), 2, 2), (("lower", 0, 2), 3, 2), (("lower", 0, 0), 4, 0),
            (("lower", 0, 4), 4, 4), (("lower", 0, 4), 0, 0),
        ):
            self.steps_make((5,), (step,), (before,), (expected,))

    def test_set_at_every_value(self):
        for size, value, now in itertools.product(range(2, 9), range(8), range(8)):
            if value < size and now < size:
                self.steps_make((size,), (("set", 0, value),), (now,), (value,))

    def test_add_goes_around_at_every_value(self):
        for size, number, now in itertools.product(range(2, 9), range(1, 8), range(8)):
            if number < size and now < size:
                expected = now + number if now + number < size else now + number - size
                self.steps_make((size,), (("add", 0, number),), (now,), (expected,))

    def test_up_stops_at_the_greatest_value(self):
        for size, number, now in itertools.product(range(2, 9), range(1, 8), range(8)):
            if number < size and now < size:
                expected = now + number if now + number < size else size - 1
                self.steps_make((size,), (("up", 0, number),), (now,), (expected,))

    def test_raise_and_lower_at_every_value(self):
        for size, value, now in itertools.product(range(2, 9), range(8), range(8)):
            if value < size and now < size:
                self.steps_make((size,), (("raise", 0, value),), (now,), (value if now < value else now,))
                self.steps_make((size,), (("lower", 0, value),), (now,), (value if now > value else now,))

    def test_copy_of_what_the_cell_can_hold_and_of_more(self):
        for value in range(4):
            for now in range(2):
                self.steps_make((2, 4), (("copy", 0, 1),), (now, value), (0 if value == 0 else 1, value))
                self.steps_make((2, 4), (("copy", 1, 0),), (now, value), (now, now))
                self.steps_make((4, 2), (("copy", 1, 0),), (value, now), (value, 0 if value == 0 else 1))
        self.steps_make((2, 3), (("copy", 0, 1),), (0, 2), (1, 2))
        self.steps_make((3, 2), (("copy", 0, 1),), (2, 1), (1, 1))

    def test_swap(self):
        for content in itertools.product(range(2), repeat=3):
            one, two, three = content
            self.steps_make((2, 2, 2), (("swap", 0, 1),), content, (two, one, three))
            self.steps_make((2, 2, 2), (("swap", 2, 0),), content, (three, two, one))
            self.steps_make((2, 2, 2), (("swap", 1, 2),), content, (one, three, two))

    def test_only_its_cell_is_changed(self):
        for content in itertools.product(range(2), repeat=3):
            one, two, three = content
            self.steps_make((2, 2, 2), (("add", 1, 1),), content, (one, 1 - two, three))
            self.steps_make((2, 2, 2), (("set", 2, 1),), content, (one, two, 1))
            self.steps_make((2, 2, 2), (("up", 0, 1),), content, (1, two, three))
            self.steps_make((2, 2, 2), (("raise", 1, 1),), content, (one, 1, three))
            self.steps_make((2, 2, 2), (("lower", 2, 0),), content, (one, two, 0))
            self.steps_make((2, 2, 2), (("copy", 2, 0),), content, (one, two, one))

    def test_when_below_at_and_above_its_bounds(self):
        for low, high in itertools.combinations_with_replacement(range(4), 2):
            for value, now in itertools.product(range(4), range(2)):
                expected = 1 - now if low <= value <= high else now
                self.steps_make((4, 2), (("when", 0, low, high, ("add", 1, 1)),), (value, now), (value, expected))

    def test_when_as_it_stands(self):
        step = ("when", 0, 2, 3, ("set", 0, 0))
        for value, expected in ((1, 1), (2, 0), (3, 0), (4, 4)):
            self.steps_make((6,), (step,), (value,), (expected,))

    def test_when_around_each_word(self):
        for inner, expected in (
            (("set", 1, 1), (1, 1, 0)), (("add", 1, 1), (1, 1, 0)), (("up", 2, 1), (1, 0, 1)),
            (("raise", 1, 1), (1, 1, 0)), (("lower", 0, 0), (0, 0, 0)), (("copy", 2, 0), (1, 0, 1)),
            (("swap", 0, 1), (0, 1, 0)),
        ):
            self.steps_make((2, 2, 2), (("when", 0, 1, 1, inner),), (1, 0, 0), expected)
            self.steps_make((2, 2, 2), (("when", 1, 1, 1, inner),), (1, 0, 0), (1, 0, 0))


class TestComers(KindsCase):
    def test_a_later_step_sees_what_an_earlier_one_did(self):
        self.steps_make((4,), (("add", 0, 1), ("add", 0, 1)), (3,), (1,))
        self.steps_make((2, 2), (("set", 0, 1), ("copy", 1, 0)), (0, 0), (1, 1))
        self.steps_make((2, 2), (("copy", 1, 0), ("set", 0, 1)), (0, 0), (1, 0))
        self.steps_make((2, 2), (("set", 0, 1), ("when", 0, 1, 1, ("set", 1, 1))), (0, 0), (1, 1))
        self.steps_make((2, 2), (("when", 0, 1, 1, ("set", 1, 1)), ("set", 0, 1)), (0, 0), (1, 0))
        self.steps_make((2, 2), (("when", 0, 0, 0, ("set", 0, 1)), ("when", 0, 1, 1, ("set", 1, 1))), (0, 0), (1, 1))
        self.steps_make((2, 2, 2), (("swap", 0, 1), ("swap", 1, 2)), (1, 0, 0), (0, 0, 1))
        self.steps_make(
            (8,), (("add", 0, 7), ("up", 0, 3), ("lower", 0, 5), ("raise", 0, 5), ("add", 0, 6), ("up", 0, 1)), (7,), (4,)
        )

    def test_no_comers_make_nothing(self):
        for content in contents(TURN):
            self.makes(TURN, content, (), content)

    def test_a_kind_without_steps(self):
        house = ((2, 3), (0, 0), ((), (("add", 1, 1),)))
        for content in contents(house):
            self.makes(house, content, (0,), content)
            self.makes(house, content, (0, 0, 0), content)
        self.makes(house, (1, 2), (0, 1, 0), (1, 0))

    def test_the_same_kind_several_times(self):
        for many in range(12):
            self.makes(TURN, (0, 0), (1,) * many, (many % 2, 0))
            self.makes(TURN, (0, 1), (0,) * many, (0, (many + 1) % 3))
            self.makes(TURN, (1, 1), (0,) * many, (1, (2 * many + 1) % 3))

    def test_comers_come_one_after_the_other(self):
        self.makes(TURN, (0, 0), (0, 1, 0), (1, 0))
        self.makes(TURN, (0, 0), (0, 0, 1), (1, 2))
        self.makes(TURN, (0, 0), (1, 0, 0), (1, 1))
        self.makes(house_of_kinds(4), (7,), (3, 1, 2), (2,))
        self.makes(house_of_kinds(4), (7,), (0, 2, 3), (3,))

    def test_four_hundred_comers(self):
        self.makes(TURN, (1, 2), (1,) * 400, (1, 2))
        self.makes(TURN, (0, 0), (0,) * 400, (0, 1))
        # By twos, the one adds 1 in front of the turn, the other one 2 behind it: 3 in four comers.
        self.makes(TURN, (0, 0), (0, 1) * 200, (0, 0))
        self.makes(TURN, (0, 0), (1,) + (0,) * 399, (1, 0))

    def test_somewhat_more_comers(self):
        self.makes(TURN, (0, 0), (1,) * 1001, (1, 0))

    def test_begin_makes_no_difference(self):
        for begin in contents(TURN):
            self.makes((TURN[0], begin, TURN[2]), (0, 0), (0, 1, 0), (1, 0))

    def test_by_name(self):
        self.same(after(comers=(0,), content=(1, 0), house=TURN), (1, 2))


class TestTable(Case):
    def test_as_it_stands(self):
        self.same(
            self.answer(table, TURN),
            (
                ((0, 0), 0, (0, 1)), ((0, 0), 1, (1, 0)),
                ((0, 1), 0, (0, 2)), ((0, 1), 1, (1, 1)),
                ((0, 2), 0, (0, 0)), ((0, 2), 1, (1, 2)),
                ((1, 0), 0, (1, 2)), ((1, 0), 1, (0, 0)),
                ((1, 1), 0, (1, 0)), ((1, 1), 1, (0, 1)),
                ((1, 2), 0, (1, 1)), ((1, 2), 1, (0, 2)),
            ),
        )

    def test_a_kind_without_steps_among_them(self):
        self.same(
            self.answer(table, ((3,), (1,), ((("up", 0, 1),), (), (("set", 0, 0),)))),
            (
                ((0,), 0, (1,)), ((0,), 1, (0,)), ((0,), 2, (0,)),
                ((1,), 0, (2,)), ((1,), 1, (1,)), ((1,), 2, (0,)),
                ((2,), 0, (2,)), ((2,), 1, (2,)), ((2,), 2, (0,)),
            ),
        )

    def test_ascending_with_a_row_for_each_content_and_kind(self):
        for sizes in ALL_SIZES:
            for many in (1, 2, 3, 4):
                kinds = ((("add", 0, 1),), (), (("set", len(sizes) - 1, 1), ("up", 0, 1)), (("lower", 0, 0),))[:many]
                house = (sizes, (1,) * len(sizes), kinds)
                with self.subTest(house=house):
                    found = self.answer(table, house)
                    self.assertEqual(list(found), sorted(found))
                    places = itertools.product(contents(house), range(many))
                    self.same(found, tuple((row, kind, after(house, row, (kind,))) for row, kind in places))

    def test_by_name(self):
        self.same(table(house=((2,), (0,), ((),))), (((0,), 0, (0,)), ((1,), 0, (1,))))


if __name__ == "__main__":
    unittest.main()
