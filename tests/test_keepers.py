import random
import unittest

from doorslips.clashes import never_cases
from doorslips.errors import InvalidKeeper, Never
from doorslips.histories import due, is_history
from doorslips.houses import contents
from doorslips.keepers import first_error, keeper_of, played, require_keeper
from doorslips.questions import doors, questions
from doorslips.slips import least_slips
from tests.helper import (
    COUNTS, EIGHT, FOUR, GATE, GREATEST, HOUSES, HUGE, LAST, NOWHERE, ORDERS, ROUND, SUM, TURN, WINDOW, Case,
    all_histories, all_uses, drawn_history, nested, paths, put, some_houses,
)
from tests.keeping import least_error_by_events, own_slips, plays, spoiled, uses_that_go

NEWEST = ("newest", (0,))
POOR = (((0, (0,), 0), (0, (1,), 0), (0, (2,), 0)), ((0, 0, (1,), (0,)), (0, 0, (2,), (2,))))


class KeeperCase(Case):
    def right(self, house, use, keeper):
        with self.subTest(use=use, keeper=repr(keeper)[:90]):
            self.assertIs(self.answer(require_keeper, house, use, keeper), keeper)

    def wrong(self, house, use, value):
        with self.subTest(use=use, value=repr(value)[:90]):
            self.assertEqual(vars(self.error(InvalidKeeper, require_keeper, house, use, value)), {})


class TestRightKeepers(KeeperCase):
    def test_no_rows(self):
        for house in HOUSES:
            for use in all_uses(house):
                self.right(house, use, ((), ()))

    def test_slips_alone_and_goings_alone(self):
        self.right(LAST, NEWEST, (POOR[0], ()))
        self.right(LAST, NEWEST, ((), POOR[1]))
        self.right(LAST, NEWEST, POOR)

    def test_rows_for_contents_that_are_no_doors(self):
        house = ((2, 2, 2), (0, 0, 0), ((("set", 1, 1),),))
        for content in contents(house):
            self.right(house, ("any", (0,)), (((0, content, 0),), ((0, 7, content, content),)))
        for use in uses_that_go(house):
            self.right(house, use, own_slips(house, use, every=True))

    def test_slips_at_both_bounds(self):
        for slip in (0, 7):
            self.right(LAST, NEWEST, (((0, (0,), slip),), ((0, slip, (0,), (1,)),)))
        self.right(LAST, NEWEST, ((), tuple((0, slip, (0,), (1,)) for slip in range(8))))

    def test_any_content_is_a_newer(self):
        for newer in contents(FOUR):
            self.right(FOUR, ("oldest", (1, 3)), ((), ((3, 2, (0, 1, 1), newer),)))

    def test_all_rows_that_there_can_be(self):
        for use in (("any", (0, 1, 2, 3)), ("newest", (1, 3))):
            there = contents(FOUR)
            slips = tuple((kind, content, 7) for kind in use[1] for content in there)
            goings = tuple(
                (kind, slip, content, there[-1]) for kind in use[1] for slip in range(8) for content in there
            )
            self.right(FOUR, use, (slips, goings))

    def test_rows_of_kinds_ascend_by_the_kind_at_first(self):
        self.right(TURN, ("any", (0, 1)), (((0, (1, 2), 5), (1, (0, 0), 3)), ()))
        goings = ((0, 5, (1, 2), (0, 0)), (0, 6, (0, 0), (0, 0)), (1, 0, (0, 0), (0, 0)))
        self.right(TURN, ("any", (0, 1)), ((), goings))

    def test_by_name(self):
        self.assertIs(self.answer(require_keeper, value=POOR, use=NEWEST, house=LAST), POOR)


class TestWrongKeepers(KeeperCase):
    def test_slips_that_do_not_ascend(self):
        for slips in (
            ((0, (1,), 0), (0, (0,), 0)), ((0, (0,), 0), (0, (0,), 1)), ((0, (0,), 1), (0, (0,), 0)),
            ((0, (0,), 0), (0, (0,), 0)), ((0, (0,), 0), (0, (2,), 0), (0, (1,), 0)),
        ):
            self.wrong(LAST, NEWEST, (slips, ()))
        self.wrong(LAST, ("newest", (0, 1)), (((1, (0,), 0), (0, (1,), 0)), ()))

    def test_goings_that_do_not_ascend(self):
        for goings in (
            ((0, 0, (1,), (0,)), (0, 0, (0,), (0,))), ((0, 1, (0,), (0,)), (0, 0, (0,), (0,))),
            ((0, 0, (0,), (0,)), (0, 0, (0,), (1,))), ((0, 0, (0,), (1,)), (0, 0, (0,), (0,))),
            ((0, 0, (0,), (0,)), (0, 0, (0,), (0,))),
        ):
            self.wrong(LAST, NEWEST, ((), goings))
        self.wrong(LAST, ("any", (0, 1)), ((), ((1, 0, (0,), (0,)), (0, 0, (1,), (0,)))))

    def test_kinds_that_are_no_goers(self):
        for house in (LAST, FOUR):
            for use in all_uses(house):
                low = contents(house)[0]
                for kind in (-1, -len(house[2]), len(house[2]), 4, HUGE, -HUGE, True, False, None, "0", (0,), [0]):
                    self.wrong(house, use, (((kind, low, 0),), ()))
                    self.wrong(house, use, ((), ((kind, 0, low, low),)))
                for kind in set(range(len(house[2]))) - set(use[1]):
                    self.wrong(house, use, (((kind, low, 0),), ()))
                    self.wrong(house, use, ((), ((kind, 0, low, low),)))

    def test_contents_that_are_none(self):
        for value in (
            (), (0,), (0, 0, 0), (2, 0), (0, 3), (-1, 0), (0, -1), (HUGE, 0), (0, HUGE), (True, 0), (0, False),
            (None, 0), ("0", 0), [0, 0], ((0, 0),), ((0,), 0), 0, None, "00", {0: 0, 1: 0},
        ):
            self.wrong(TURN, ("any", (0,)), (((0, value, 0),), ()))
            self.wrong(TURN, ("any", (0,)), ((), ((0, 0, value, (0, 0)),)))
            self.wrong(TURN, ("any", (0,)), ((), ((0, 0, (0, 0), value),)))

    def test_slips_that_are_none(self):
        for slip in (-1, 8, HUGE, -HUGE, True, False, None, "0", (0,), [0], {}):
            self.wrong(LAST, NEWEST, (((0, (0,), slip),), ()))
            self.wrong(LAST, NEWEST, ((), ((0, slip, (0,), (0,)),)))
            self.wrong(LAST, NEWEST, (POOR[0], POOR[1] + ((0, slip, (2,), (0,)),)))

    def test_rows_too_short_and_too_long(self):
        for row in ((), (0,), (0, (0,)), (0, (0,), 0, 0), (0, (0,), 0, (0,)), ((0, (0,), 0),)):
            self.wrong(LAST, NEWEST, ((row,), ()))
        for row in ((), (0,), (0, 0), (0, 0, (0,)), (0, 0, (0,), (0,), (0,)), (0, (0,), 0), ((0, 0, (0,), (0,)),)):
            self.wrong(LAST, NEWEST, ((), (row,)))

    def test_a_part_too_few_or_too_many(self):
        for value in ((), ((),), ((), (), ()), POOR + ((),), (POOR,), (POOR, POOR), POOR[0], POOR[1], (None, ())):
            self.wrong(LAST, NEWEST, value)

    def test_other_values_at_each_place(self):
        for path in paths(POOR):
            for value in NOWHERE:
                # No rows at all are right, and these are no rows.
                self.wrong(LAST, NEWEST, put(POOR, path, value))

    def test_lists_at_each_place(self):
        for path in paths(POOR):
            at = POOR
            for index in path:
                at = at[index]
            if isinstance(at, tuple):
                self.wrong(LAST, NEWEST, put(POOR, path, list(at)))

    def test_values_of_any_other_kind(self):
        others = NOWHERE + (
            0, 1, "any", {0: (), 1: ()}, LAST, NEWEST, ((0,) * 3,) * 2, nested(40, lambda inner: (inner, inner)[:1]),
            nested(40, lambda inner: (inner, ())), (((0, (0,), 0),) * 50000, ()),
        )
        for use in (NEWEST, ("any", (0, 1))):
            for value in others:
                self.wrong(LAST, use, value)


class TestKeeperOf(KeeperCase):
    def test_as_it_must_be(self):
        house = ((2,), (1,), ((),))
        for order in ORDERS:
            self.same(self.answer(keeper_of, house, (order, (0,))), (((0, (1,), 0),), ((0, 0, (1,), (1,)),)))
        found = self.answer(keeper_of, SUM, ("any", (0,)))
        self.same(found, (
            ((0, (0,), 0), (0, (1,), 0), (0, (2,), 0)),
            ((0, 0, (0,), (2,)), (0, 0, (1,), (0,)), (0, 0, (2,), (1,))),
        ))

    def test_rows_and_slips(self):
        for house in HOUSES + tuple(some_houses(30, "keepers")):
            for use in uses_that_go(house):
                with self.subTest(house=house, use=use):
                    found = self.answer(keeper_of, house, use)
                    self.right(house, use, found)
                    slips, goings = found
                    given = {row[:2]: row[2] for row in slips}
                    self.assertEqual(set(given), {(kind, door) for kind in use[1] for door in doors(house)})
                    asked = set()
                    for kind in use[1]:
                        numbers = {slip for row, slip in given.items() if row[0] == kind}
                        self.assertEqual(numbers, set(range(least_slips(house, use, kind))))
                        for door in doors(house):
                            asked |= {(kind, given[kind, door]) + row for row in questions(house, use, kind, door)}
                    self.assertEqual(goings, tuple(sorted(asked)))
                    self.assertIsNone(self.answer(first_error, house, use, found))

    def test_no_history_makes_it_err(self):
        draw = random.Random("no history")
        for house in HOUSES + tuple(some_houses(16, "no error")):
            for use in uses_that_go(house):
                keeper = keeper_of(house, use)
                for events in (3, 12, 40):
                    history = drawn_history(house, use, draw, events)
                    self.assertTrue(is_history(house, use, history))
                    self.same(self.answer(played, house, use, keeper, history), due(house, use, history))
                    self.assertIsNone(plays(house, use, keeper, history)[1])

    def test_never(self):
        met = set()
        for house in HOUSES + tuple(some_houses(20, "nevers")):
            for use in all_uses(house):
                never = [kind for kind in use[1] if never_cases(house, use, kind) is not None]
                if never:
                    with self.subTest(house=house, use=use):
                        self.same(self.error(Never, keeper_of, house, use).kind, never[0])
                        met.add((use[0], never[0]))
        self.assertEqual(met, {(order, kind) for order in ORDERS for kind in range(4)})

    def test_by_name(self):
        self.same(self.answer(keeper_of, use=NEWEST, house=LAST), keeper_of(LAST, NEWEST))


class TestPlayed(KeeperCase):
    def plays(self, house, use, keeper, history, expected):
        with self.subTest(use=use, history=repr(history)[:90]):
            self.same(self.answer(played, house, use, keeper, history), expected)

    def test_no_event(self):
        for house in HOUSES:
            for use in all_uses(house):
                self.plays(house, use, ((), ()), (), house[1])

    def test_kinds_that_are_no_goers(self):
        self.plays(LAST, NEWEST, ((), ()), (("in", 1), ("in", 1)), (2,))
        self.plays(TURN, ("any", (0,)), ((), ()), (("in", 1), ("in", 1), ("in", 1)), (1, 0))
        self.plays(LAST, NEWEST, POOR, (("in", 0), ("in", 1)), (2,))

    def test_rows_that_lack(self):
        self.plays(LAST, NEWEST, ((), ()), (("in", 0),), None)
        self.plays(LAST, NEWEST, ((), ()), (("in", 1), ("in", 0), ("in", 1)), None)
        self.plays(LAST, NEWEST, (POOR[0], ()), (("in", 0),), (1,))
        self.plays(LAST, NEWEST, (POOR[0], ()), (("in", 0), ("out", 0)), None)
        self.plays(LAST, NEWEST, (POOR[0], ()), (("in", 0), ("out", 0), ("in", 1)), None)
        self.plays(LAST, NEWEST, (POOR[0][1:], POOR[1]), (("in", 1), ("in", 0), ("out", 1)), (0,))
        self.plays(LAST, NEWEST, (POOR[0][1:], POOR[1]), (("in", 0), ("in", 1)), None)

    def test_on_from_a_wrong_newer(self):
        # Behind one that sets 2, and one that sets 1 and goes, 2 would be due.
        history = (("in", 1), ("in", 0), ("out", 1))
        self.plays(LAST, NEWEST, POOR, history, (0,))
        self.assertEqual(due(LAST, NEWEST, history), (2,))
        self.plays(LAST, NEWEST, POOR, history + (("in", 0), ("out", 2)), (0,))
        self.plays(LAST, NEWEST, POOR, history + (("in", 0),), (1,))
        self.plays(LAST, NEWEST, POOR, history + (("in", 1),), (2,))
        self.plays(LAST, NEWEST, (POOR[0], POOR[1][:1]), history + (("in", 0), ("in", 1), ("out", 2)), None)

    def test_slips_are_got_by_the_keepers_own_content(self):
        keeper = (((0, (0,), 0), (0, (1,), 1), (0, (2,), 2)), tuple(
            (0, slip, present, ((slip + 1) % 3,)) for slip in range(3) for present in ((1,), (2,))
        ))
        self.plays(LAST, NEWEST, keeper, (("in", 0), ("out", 0)), (1,))
        self.plays(LAST, NEWEST, keeper, (("in", 0), ("out", 0), ("in", 0), ("out", 1)), (2,))
        self.plays(LAST, NEWEST, keeper, (("in", 0), ("in", 0), ("out", 1), ("out", 0)), (1,))

    def test_four_hundred_events(self):
        for order in ORDERS:
            use = (order, (0, 1))
            turns = tuple(event for number in range(200) for event in (("in", number % 2), ("out", number)))
            self.plays(SUM, use, keeper_of(SUM, use), turns, (0,))
            self.plays(SUM, use, keeper_of(SUM, use), (("in", 1),) * 400, (2,))
        oldest = (("in", 0),) * 250 + tuple(("out", number) for number in range(150))
        self.plays(SUM, ("oldest", (0,)), keeper_of(SUM, ("oldest", (0,))), oldest, (1,))

    def test_as_told_for_keepers_of_all_sorts(self):
        draw = random.Random("played")
        lacks = 0
        for house in HOUSES + tuple(some_houses(12, "played")):
            for use in all_uses(house):
                keeper = own_slips(house, use)
                for other in [keeper] + spoiled(house, keeper, draw):
                    history = drawn_history(house, use, draw, draw.randint(1, 30))
                    found, _ = plays(house, use, other, history)
                    lacks += found[-1] is None
                    self.plays(house, use, other, history, found[-1])
        self.assertGreater(lacks, 100)

    def test_by_name(self):
        self.same(self.answer(played, history=(("in", 1),), keeper=POOR, use=NEWEST, house=LAST), (2,))


class TestFirstError(KeeperCase):
    def has(self, house, use, keeper, least):
        """Check that an error is found of so many events, or none."""
        found = self.answer(first_error, house, use, keeper)
        with self.subTest(house=house, use=use, keeper=repr(keeper)[:200]):
            if least is None:
                self.assertIsNone(found)
                return
            self.assertIs(type(found), tuple)
            self.assertEqual({type(event) for event in found}, {tuple})
            self.assertTrue(is_history(house, use, found))
            self.assertEqual(plays(house, use, keeper, found)[1], len(found) - 1)
            self.assertEqual(len(found), least)

    def test_no_rows(self):
        for house in HOUSES:
            for use in all_uses(house):
                self.has(house, use, ((), ()), 1)
                self.has(house, use, (own_slips(house, use)[0], ()), 2)
                self.has(house, use, ((), own_slips(house, use)[1]), 1)

    def test_the_example(self):
        self.same(self.answer(first_error, TURN, ("any", (0,)), ((), ())), (("in", 0),))
        self.has(LAST, NEWEST, POOR, 3)

    def test_right_keepers(self):
        for house in HOUSES + tuple(some_houses(20, "right")):
            for use in uses_that_go(house):
                self.has(house, use, own_slips(house, use), None)
                self.has(house, use, own_slips(house, use, every=True), None)
                slips, goings = keeper_of(house, use)
                there = {row[:3] for row in goings}
                low = contents(house)[0]
                more = [
                    (kind, slip, content, low) for kind in use[1] for slip in range(8) for content in contents(house)
                    if (kind, slip, content) not in there
                ]
                self.has(house, use, (slips, tuple(sorted(goings + tuple(more)))), None)

    def test_never_to_go(self):
        for house in HOUSES:
            for use in all_uses(house):
                if use not in uses_that_go(house):
                    self.assertIsNotNone(first_error(house, use, own_slips(house, use)))

    def test_long_ones(self):
        lengths = set()
        for order in ORDERS:
            use = (order, (0,))
            slips, goings = own_slips(ROUND, use)
            for door in range(8):
                # As many come as lead to the door, and then one more.
                self.has(ROUND, use, (slips[:door] + slips[door + 1:], goings), door + 1)
            for at, (_, door, present, _) in enumerate(goings):
                # Of those who came all may go but a few, or all, or none; later ones may come behind the entry.
                least = min(
                    came + (came - stay) + later + 2
                    for came in (door, door + 8)
                    for stay in {"any": range(came + 1), "oldest": (0,), "newest": (came,)}[order]
                    for later in range(1 if order == "newest" else 8)
                    if (stay + 1 + later) % 8 == present[0]
                )
                lengths.add(least)
                self.has(ROUND, use, (slips, goings[:at] + goings[at + 1:]), least)
        self.assertEqual(max(lengths), 7 + 7 + 7 + 2)

    def test_long_ones_of_four_kinds(self):
        for use in (("any", (0, 1)), ("newest", (0, 1, 2, 3)), ("oldest", (1,)), ("any", (1, 2)), ("newest", (0,))):
            slips, goings = own_slips(COUNTS, use)
            for at, row in enumerate(goings):
                newer = ((row[3][0] + 1) % 8,)
                for put_there in ((), (row[:3] + (newer,),)):
                    other = (slips, goings[:at] + put_there + goings[at + 1:])
                    self.has(COUNTS, use, other, least_error_by_events(COUNTS, use, other, 60))

    def test_several_rows_left_out(self):
        draw = random.Random("several")
        for house in (ROUND, COUNTS, EIGHT):
            for use in (("any", (0,)), ("oldest", (0,)), ("newest", (0,))):
                slips, goings = own_slips(house, use)
                for _ in range(12):
                    keeper = (
                        tuple(row for row in slips if draw.random() < 0.6 or row[1] == (0,)),
                        tuple(row for row in goings if draw.random() < 0.9),
                    )
                    self.has(house, use, keeper, least_error_by_events(house, use, keeper, 60))

    def test_longest_of_drawn_houses(self):
        draw = random.Random("long")
        longest = 0
        for house in some_houses(24, "long"):
            for use in uses_that_go(house):
                keeper = own_slips(house, use)
                for other in spoiled(house, keeper, draw):
                    least = least_error_by_events(house, use, other, 60)
                    longest = max(longest, least or 0)
                    self.has(house, use, other, least)
        self.assertGreater(longest, 5)

    def test_as_all_histories_of_few_events_tell(self):
        draw = random.Random("few")
        lengths = {}
        for house, most in ((LAST, 5), (GREATEST, 4), (SUM, 5), (WINDOW, 4), (TURN, 5), (GATE, 4), (EIGHT, 5)):
            for use in all_uses(house):
                histories = sorted(all_histories(house, use, most), key=len)
                keepers = [own_slips(house, use)]
                keepers += spoiled(house, keepers[0], draw)[3:]
                if use in uses_that_go(house):
                    keepers += spoiled(house, keeper_of(house, use), draw)[3:5]
                for keeper in keepers:
                    errors = (
                        len(history) for history in histories
                        if history and plays(house, use, keeper, history)[1] == len(history) - 1
                    )
                    least = next(errors, None)
                    lengths[least] = lengths.get(least, 0) + 1
                    if least is None:
                        found = self.answer(first_error, house, use, keeper)
                        self.assertTrue(found is None or len(found) > most)
                    else:
                        self.has(house, use, keeper, least)
        self.assertEqual(set(lengths), {None, 1, 2, 3, 4, 5})

    def test_wrong_and_right_again(self):
        # The row of the going that comes later sets all right again: the error is where it went wrong.
        keeper = (POOR[0], ((0, 0, (0,), (0,)), (0, 0, (1,), (2,)), (0, 0, (2,), (0,))))
        self.has(LAST, NEWEST, keeper, 2)
        found, wrong = plays(LAST, NEWEST, keeper, (("in", 0), ("in", 0), ("out", 1), ("out", 0)))
        self.assertEqual((found, wrong), ([(1,), (1,), (2,), (0,)], 2))
        self.same(self.answer(played, LAST, NEWEST, keeper, (("in", 0), ("in", 0), ("out", 1), ("out", 0))), (0,))

    def test_by_name(self):
        self.same(self.answer(first_error, keeper=((), ()), use=NEWEST, house=LAST), (("in", 0),))


if __name__ == "__main__":
    unittest.main()
