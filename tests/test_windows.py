import random
import unittest

from doorslips.checker import first_fault
from doorslips.claims import decide
from doorslips.errors import (
    InvalidClaim, InvalidHouse, InvalidKeeper, InvalidUse, Lacking, LimitExceeded, Never, NotNow, Stays,
    UnknownCheckpoint, UnknownEntry, UnknownKind, UnknownRecord,
)
from doorslips.exchanges import exchange_of
from doorslips.kinds import after
from doorslips.keepers import first_error, keeper_of
from doorslips.windows import Window
from tests.helper import (
    COUNTS, FOUR, GATE, GREATEST, HOUSES, HUGE, LAST, NOWHERE, ORDERS, ROUND, SUM, TURN, Case, all_uses, some_houses,
)
from tests.keeping import own_slips, spoiled, uses_that_go

POOR = (((0, (0,), 0), (0, (1,), 0), (0, (2,), 0)), ((0, 0, (1,), (0,)), (0, 0, (2,), (2,))))
RICH = (((0, (0,), 0), (0, (1,), 1), (0, (2,), 2)), (
    (0, 0, (1,), (0,)), (0, 0, (2,), (2,)), (0, 1, (1,), (1,)), (0, 1, (2,), (2,)), (0, 2, (1,), (2,)),
    (0, 2, (2,), (2,)),
))
# By this one the slips of RICH are others: 5, 6 and 7.
OTHER = (
    tuple(row[:2] + (row[2] + 5,) for row in RICH[0]), tuple((row[0], row[1] + 5) + row[2:] for row in RICH[1])
)
NEWEST = ("newest", (0,))
# Numbers that no entry, checkpoint or record of these tests has.
NO_NUMBERS = NOWHERE + (5, 99, 100, 10 ** 9, "0", "1", (0,), [0], (), {0: 0}, {1: 1}, ((),))


def state(window):
    """Return all that can be asked of a window, but its cases."""
    numbers = window.inside()
    return (
        len(window), window.content(), window.due(), numbers, [window.kind_of(number) for number in numbers],
        [window.slip(number) for number in numbers], window.use(), window.keeper(), window.house(), window.records(),
    )


class WindowCase(Case):
    def refuses(self, window, error, call, *arguments, **kept):
        """Check that a call raises an error that keeps just this, and changes nothing."""
        before = state(window)
        found = self.error(error, call, *arguments)
        self.same(vars(found), kept)
        self.same(state(window), before)

    def has(self, window, content, due, numbers):
        self.same((window.content(), window.due(), window.inside()), (content, due, numbers))
        self.assertIs(window.is_due(), content == due)


class TestMaking(WindowCase):
    def test_with_a_keeper_with_none_and_without_one(self):
        for window in (Window(LAST, NEWEST, POOR), Window(LAST, NEWEST, keeper=POOR)):
            self.assertIs(window.keeper(), POOR)
            self.has(window, (0,), (0,), ())
            self.assertEqual(len(window), 0)
        for window in (Window(LAST, NEWEST), Window(LAST, NEWEST, None), Window(LAST, NEWEST, keeper=None)):
            self.same(window.keeper(), keeper_of(LAST, NEWEST))
        self.assertIs(window.house(), LAST)
        self.assertIs(window.use(), NEWEST)
        self.assertEqual(window.records(), 0)

    def test_the_content_is_begin(self):
        for house in HOUSES:
            for use in uses_that_go(house):
                self.has(Window(house, use), house[1], house[1], ())

    def test_invalid_houses(self):
        for value in NOWHERE + (LAST[:2], LAST + ((),), list(LAST)):
            self.same(self.error(InvalidHouse, Window, value, NEWEST).part, None)
            self.same(self.error(InvalidHouse, Window, value, None, 0).part, None)
        self.same(self.error(InvalidHouse, Window, ((9,),) + LAST[1:], ()).part, ("sizes",))
        self.same(self.error(InvalidHouse, Window, (LAST[0], (3,), LAST[2]), ()).part, ("begin",))
        self.same(self.error(InvalidHouse, Window, LAST[:2] + ((LAST[2][0], (("set", 0, 3),)),), ()).part, ("kind", 1))

    def test_invalid_uses(self):
        for value in NOWHERE + (("any", ()), ("any", (2,)), ["any", (0,)], ("last", (0,))):
            for keeper in (None, POOR, 0, ()):
                self.same(vars(self.error(InvalidUse, Window, LAST, value, keeper)), {})

    def test_invalid_keepers(self):
        for value in [value for value in NOWHERE if value is not None] + [(), ((),), POOR[0], POOR[::-1], list(POOR)]:
            for use in (NEWEST, ("any", (0,))):
                # It is no keeper of a use in which none could be right, either.
                self.same(vars(self.error(InvalidKeeper, Window, LAST, use, value)), {})
        self.same(vars(self.error(InvalidKeeper, Window, LAST, ("newest", (1,)), POOR)), {})

    def test_never(self):
        self.same(vars(self.error(Never, Window, LAST, ("any", (0, 1)))), {"kind": 0})
        self.same(vars(self.error(Never, Window, GREATEST, ("any", (0, 1)), None)), {"kind": 1})
        self.same(vars(self.error(Never, Window, TURN, ("any", (1,)))), {"kind": 1})
        # A keeper that errs may be given there.
        self.assertIs(Window(LAST, ("any", (0,)), POOR).keeper(), POOR)

    def test_by_name(self):
        window = self.answer(Window, keeper=POOR, use=NEWEST, house=LAST)
        self.same((window.house(), window.use(), window.keeper()), (LAST, NEWEST, POOR))


class TestEnter(WindowCase):
    def test_numbers_contents_and_slips(self):
        window = Window(LAST, NEWEST, RICH)
        self.same([self.answer(window.enter, kind) for kind in (0, 0, 1, 0)], [0, 1, 2, 3])
        self.has(window, (1,), (1,), (0, 1, 2, 3))
        self.same([window.slip(number) for number in range(4)], [0, 1, None, 2])
        self.same([window.kind_of(number) for number in range(4)], [0, 0, 1, 0])
        self.assertEqual(len(window), 4)

    def test_unknown_kinds(self):
        window = Window(LAST, NEWEST, RICH)
        window.enter(0)
        for kind in NOWHERE + (2, -1, -2, HUGE, "0", (0,), [0], ()):
            self.refuses(window, UnknownKind, window.enter, kind, index=kind)
        self.same(window.enter(1), 1)

    def test_100_entries(self):
        for house, use, kind in ((SUM, ("any", (0, 1)), 0), (LAST, NEWEST, 1)):
            window = Window(house, use)
            self.same([window.enter(kind) for _ in range(100)], list(range(100)))
            for other in (0, 1):
                self.refuses(window, LimitExceeded, window.enter, other, limit=100)
            self.refuses(window, UnknownKind, window.enter, 2, index=2)
            self.refuses(window, UnknownKind, window.enter, True, index=True)
            self.assertEqual(len(window), 100)
        # Entries that went do not count.
        window = Window(SUM, ("oldest", (0, 1)))
        for number in range(250):
            self.same(window.enter(number % 2), number)
            if number > 98:
                window.leave(number - 99)
        self.assertEqual(len(window), 250 + 151)
        self.assertEqual(window.inside(), tuple(range(151, 250)))
        self.assertTrue(window.is_due())

    def test_lacking(self):
        window = Window(LAST, NEWEST, (POOR[0][:1], ()))
        self.same(window.enter(1), 0)
        self.refuses(window, Lacking, window.enter, 0, number=1)
        self.same(window.enter(1), 1)
        self.refuses(window, Lacking, window.enter, 0, number=2)
        window = Window(LAST, NEWEST, ((), ()))
        self.refuses(window, Lacking, window.enter, 0, number=0)
        self.same(window.enter(1), 0)
        # The limit is looked at ahead of the slip.
        for _ in range(99):
            window.enter(1)
        self.refuses(window, LimitExceeded, window.enter, 0, limit=100)

    def test_by_name(self):
        window = Window(LAST, NEWEST)
        self.same(self.answer(window.enter, kind=1), 0)


class TestLeave(WindowCase):
    def test_the_example(self):
        window = Window(TURN, ("oldest", (0, 1)))
        self.same([window.enter(0), window.enter(1)], [0, 1])
        self.assertIsNone(self.answer(window.leave, 0))
        self.has(window, (1, 0), (1, 0), (1,))
        self.assertEqual(len(window), 3)

    def test_each_order(self):
        for order, first, second in (("oldest", 0, 2), ("newest", 3, 2)):
            window = Window(SUM, (order, (0,)))
            for kind in (0, 1, 0, 0):
                window.enter(kind)
            for number in {0, 2, 3} - {first}:
                self.refuses(window, NotNow, window.leave, number, number=number)
            window.leave(first)
            self.refuses(window, NotNow, window.leave, 3 - first, number=3 - first)
            window.leave(second)
            window.leave(3 - first)
            self.has(window, (2,), (2,), (1,))
        for gone in ((0, 2, 3), (3, 0, 2), (2, 3, 0), (2, 0, 3)):
            window = Window(SUM, ("any", (0,)))
            for kind in (0, 1, 0, 0):
                window.enter(kind)
            for number in gone:
                window.leave(number)
                self.assertTrue(window.is_due())
            self.has(window, (2,), (2,), (1,))

    def test_unknown_entries(self):
        window = Window(SUM, ("any", (0,)))
        for number in NO_NUMBERS + (0, 1):
            self.refuses(window, UnknownEntry, window.leave, number, number=number)
        for kind in (0, 0, 1):
            window.enter(kind)
        window.leave(0)
        for number in NO_NUMBERS + (0, 3, -1):
            self.refuses(window, UnknownEntry, window.leave, number, number=number)
        self.refuses(window, UnknownEntry, window.leave, True, number=True)
        window.leave(1)
        self.refuses(window, UnknownEntry, window.leave, 1, number=1)

    def test_stays(self):
        for order in ORDERS:
            window = Window(SUM, (order, (0,)))
            for kind in (1, 0, 1):
                window.enter(kind)
            for number in (0, 2):
                self.refuses(window, Stays, window.leave, number, number=number)
            window.leave(1)

    def test_lacking(self):
        window = Window(LAST, NEWEST, (RICH[0], ()))
        window.enter(0)
        self.refuses(window, Lacking, window.leave, 0, number=0)
        window.enter(0)
        # Whose turn it is, is looked at ahead of the row.
        self.refuses(window, NotNow, window.leave, 0, number=0)
        self.refuses(window, Lacking, window.leave, 1, number=1)
        window = Window(LAST, NEWEST, (RICH[0], RICH[1][1:]))
        window.enter(0)
        self.refuses(window, Lacking, window.leave, 0, number=0)
        window.enter(1)
        self.assertIsNone(window.leave(0))
        self.has(window, (2,), (2,), (1,))

    def test_a_keeper_that_errs(self):
        window = Window(LAST, NEWEST, POOR)
        for kind in (1, 0):
            window.enter(kind)
        window.leave(1)
        self.has(window, (0,), (2,), (0,))
        # It goes on from what the row says.
        self.same(window.enter(0), 2)
        self.has(window, (1,), (1,), (0, 2))
        window.leave(2)
        self.has(window, (0,), (2,), (0,))
        window.enter(1)
        self.has(window, (2,), (2,), (0, 3))

    def test_by_name(self):
        window = Window(LAST, NEWEST)
        window.enter(0)
        self.assertIsNone(self.answer(window.leave, number=0))


class TestEntries(WindowCase):
    def test_unknown_ones(self):
        window = Window(SUM, ("any", (0,)))
        for kind in (0, 1, 0):
            window.enter(kind)
        window.leave(0)
        for number in NO_NUMBERS + (0, 3, -1, True, False):
            for call in (window.kind_of, window.slip, window.case):
                self.refuses(window, UnknownEntry, call, number, number=number)
        self.same(window.kind_of(number=1), 1)
        self.same(window.slip(number=1), None)

    def test_cases(self):
        window = Window(SUM, ("any", (0,)))
        for kind in (0, 1, 0, 0, 1):
            window.enter(kind)
        self.same(self.answer(window.case, 0), ((), (), (1, 0, 0, 1)))
        self.same(window.case(2), ((0, 1), (), (0, 1)))
        self.same(window.case(3), ((0, 1, 0), (), (1,)))
        for number in (1, 4):
            self.refuses(window, Stays, window.case, number, number=number)
        window.leave(0)
        self.same(window.case(2), ((0, 1), (0,), (0, 1)))
        self.same(window.case(3), ((0, 1, 0), (0,), (1,)))
        window.leave(2)
        self.same(window.case(3), ((0, 1, 0), (0, 2), (1,)))
        window.enter(0)
        self.same(window.case(5), ((1, 0, 1), (), ()))
        window.leave(3)
        self.same(window.case(number=5), ((1, 0, 1), (1,), ()))

    def test_cases_by_oldest_and_newest(self):
        window = Window(SUM, ("oldest", (0,)))
        for kind in (0, 1, 0, 0):
            window.enter(kind)
        window.leave(0)
        self.same([window.case(number) for number in (2, 3)], [((0, 1), (0,), (0,)), ((0, 1, 0), (0,), ())])
        window.enter(1)
        window.leave(2)
        self.same(window.case(3), ((0, 1, 0), (0, 2), (1,)))
        window = Window(SUM, ("newest", (0,)))
        for kind in (0, 1, 0, 0, 1):
            window.enter(kind)
        window.leave(3)
        self.same([window.case(number) for number in (0, 2)], [((), (), (1, 0, 1)), ((0, 1), (), (1,))])
        window.enter(0)
        self.same(window.case(5), ((0, 1, 0, 1), (), ()))

    def test_cases_behind_restores(self):
        window = Window(SUM, ("any", (0,)))
        for kind in (0, 1, 0):
            window.enter(kind)
        window.checkpoint()
        window.leave(0)
        window.enter(0)
        self.same(window.case(3), ((1, 0), (), ()))
        window.leave(2)
        self.same(window.case(3), ((1, 0), (1,), ()))
        window.restore(0)
        self.same(window.case(2), ((0, 1), (), ()))
        self.refuses(window, UnknownEntry, window.case, 3, number=3)
        window.enter(1)
        window.enter(0)
        window.leave(2)
        self.same(window.case(0), ((), (), (1, 1, 0)))
        self.same(window.case(4), ((0, 1, 0, 1), (2,), ()))
        self.refuses(window, Stays, window.case, 3, number=3)


class TestSetUse(WindowCase):
    def test_with_and_without_a_keeper(self):
        window = Window(LAST, NEWEST, RICH)
        window.enter(0)
        window.leave(0)
        self.assertIsNone(self.answer(window.set_use, ("newest", (0, 1))))
        self.same((window.use(), window.keeper()), (("newest", (0, 1)), keeper_of(LAST, ("newest", (0, 1)))))
        self.assertIsNone(window.set_use(("any", (0,)), POOR))
        self.same((window.use(), window.keeper()), (("any", (0,)), POOR))
        self.assertIsNone(window.set_use(keeper=None, use=NEWEST))
        self.same((window.use(), window.keeper()), (NEWEST, keeper_of(LAST, NEWEST)))
        self.assertEqual(len(window), 2)
        self.same(window.enter(0), 1)

    def test_errors_in_their_order(self):
        window = Window(LAST, NEWEST, RICH)
        for kind in (1, 0, 1, 0):
            window.enter(kind)
        for value in NOWHERE + (("newest", (2,)), ("newest", ()), ["newest", (0,)]):
            for keeper in (None, 0, POOR):
                self.refuses(window, InvalidUse, window.set_use, value, keeper)
        # Entries of goers of now, and of the new ones.
        for use, number in ((NEWEST, 1), (("any", (0,)), 1), (("any", (1,)), 0), (("newest", (0, 1)), 0)):
            for keeper in (None, 0, (), POOR):
                self.refuses(window, NotNow, window.set_use, use, keeper, number=number)
        for number in (3, 1):
            window.leave(number)
        self.refuses(window, NotNow, window.set_use, ("any", (1,)), None, number=0)
        for keeper in [value for value in NOWHERE if value is not None] + [(), POOR[::-1], list(POOR)]:
            for use in (NEWEST, ("any", (0,))):
                self.refuses(window, InvalidKeeper, window.set_use, use, keeper)
        self.refuses(window, Never, window.set_use, ("any", (0,)), kind=0)
        self.refuses(window, Never, window.set_use, ("oldest", (0,)), None, kind=0)
        self.assertIsNone(window.set_use(("oldest", (0,)), POOR))
        self.has(window, (2,), (2,), (0, 2))

    def test_the_content_becomes_the_due_one(self):
        window = Window(LAST, NEWEST, POOR)
        for kind in (1, 0):
            window.enter(kind)
        window.leave(1)
        self.has(window, (0,), (2,), (0,))
        window.set_use(NEWEST)
        self.has(window, (2,), (2,), (0,))
        self.same(window.slip(0), None)


class TestSetKind(WindowCase):
    def test_with_and_without_a_keeper(self):
        window = Window(LAST, NEWEST, RICH)
        kind = (("set", 0, 0),)
        self.assertIsNone(self.answer(window.set_kind, 1, kind))
        house = (LAST[0], LAST[1], (LAST[2][0], kind))
        self.same((window.house(), window.use(), window.keeper()), (house, NEWEST, keeper_of(house, NEWEST)))
        self.assertIsNone(window.set_kind(0, (), POOR))
        self.same((window.house(), window.keeper()), (LAST[:2] + (((), kind),), POOR))
        self.assertIsNone(window.set_kind(keeper=RICH, kind=LAST[2][1], index=1))
        self.same((window.house(), window.keeper()), (LAST[:2] + (((), LAST[2][1]),), RICH))

    def test_errors_in_their_order(self):
        window = Window(LAST, NEWEST, RICH)
        for kind in (1, 0, 1):
            window.enter(kind)
        for index in NOWHERE + (2, -1, "0", (0,), [0], ()):
            for kind in ((), None):
                self.refuses(window, UnknownKind, window.set_kind, index, kind, index=index)
        kinds = [
            value for value in NOWHERE if value != ()
        ] + [(("set", 0, 3),), (("add", 0, 0),), [("set", 0, 0)], (("set", 1, 0),), (("set", 0, 0),) * 7, (("set", 0),)]
        for index in (0, 1):
            for kind in kinds:
                self.refuses(window, InvalidHouse, window.set_kind, index, kind, 0, part=("kind", index))
        for index, number in ((0, 1), (1, 0)):
            for keeper in (None, 0, (), POOR):
                self.refuses(window, NotNow, window.set_kind, index, (), keeper, number=number)
        window.leave(1)
        self.refuses(window, NotNow, window.set_kind, 1, (), number=0)
        for keeper in [value for value in NOWHERE if value is not None] + [(), POOR[::-1], list(POOR)]:
            self.refuses(window, InvalidKeeper, window.set_kind, 0, (), keeper)
        self.assertIsNone(window.set_kind(0, ()))
        self.has(window, (2,), (2,), (0, 2))
        window = Window(GREATEST, ("newest", (1,)))
        self.refuses(window, Never, window.set_kind, 1, (("raise", 0, 2),), kind=1)
        self.refuses(window, Never, window.set_kind, 0, (("add", 0, 1),), None, kind=1)

    def test_entries_of_other_kinds_may_be_in(self):
        window = Window(GATE, ("any", (0,)))
        for kind in (2, 2):
            window.enter(kind)
        self.assertIsNone(window.set_kind(1, ()))
        self.refuses(window, NotNow, window.set_kind, 2, (), number=0)
        window.enter(0)
        self.refuses(window, NotNow, window.set_kind, 1, (), number=2)

    def test_the_content_becomes_the_due_one(self):
        window = Window(LAST, NEWEST, POOR)
        for kind in (1, 0):
            window.enter(kind)
        window.leave(1)
        self.has(window, (0,), (2,), (0,))
        window.set_kind(0, ())
        self.has(window, (2,), (2,), (0,))

    def test_keepers_of_the_new_house(self):
        # What a keeper is does not hang on the kinds, but whether it errs does.
        window = Window(LAST, NEWEST, RICH)
        window.set_kind(1, (), RICH)
        window.enter(1)
        window.enter(0)
        window.leave(1)
        self.assertTrue(window.is_due())
        window.set_kind(0, (("add", 0, 1),), RICH)
        window.enter(0)
        window.enter(0)
        self.refuses(window, UnknownEntry, window.leave, 9, number=9)
        self.refuses(window, NotNow, window.leave, 2, number=2)
        self.assertEqual(window.content(), (2,))
        window.leave(3)
        self.has(window, (2,), (1,), (0, 2))


class TestSetKeeper(WindowCase):
    def test_invalid_keepers(self):
        window = Window(LAST, NEWEST, POOR)
        window.enter(0)
        for value in NOWHERE + ((), ((),), POOR[::-1], list(POOR), keeper_of(LAST, ("newest", (0, 1)))):
            self.refuses(window, InvalidKeeper, window.set_keeper, value)

    def test_with_nobody_in_any_keeper_will_do(self):
        window = Window(LAST, NEWEST, POOR)
        for keeper in (((), ()), POOR, RICH, POOR, OTHER):
            self.assertIsNone(self.answer(window.set_keeper, keeper))
            self.assertIs(window.keeper(), keeper)
        for kind in (1, 1):
            window.enter(kind)
        self.assertIsNone(window.set_keeper(keeper=POOR))
        self.same([window.slip(number) for number in (0, 1)], [None, None])

    def test_newer_slips_by_the_exchange(self):
        window = Window(LAST, NEWEST, RICH)
        for kind in (0, 1, 0, 0):
            window.enter(kind)
        self.same([window.slip(number) for number in range(4)], [0, None, 2, 1])
        self.assertIsNone(window.set_keeper(OTHER))
        self.same([window.slip(number) for number in range(4)], [5, None, 7, 6])
        self.assertEqual(len(window), 4)
        for number in (3, 2):
            window.leave(number)
            self.assertTrue(window.is_due())
        self.assertIsNone(window.set_keeper(RICH))
        self.same(window.slip(0), 0)
        # One that errs may take over, too, and then nobody else while one is in.
        self.assertIsNone(window.set_keeper(POOR))
        self.same(window.slip(0), 0)
        for keeper in (RICH, OTHER, POOR):
            self.refuses(window, NotNow, window.set_keeper, keeper, number=0)
        window.leave(0)
        self.assertIsNone(window.set_keeper(OTHER))

    def test_not_now(self):
        # The keeper of now errs, or there is no exchange: the number is the least one of a goer.
        window = Window(LAST, NEWEST, POOR)
        for kind in (1, 0, 0):
            window.enter(kind)
        for keeper in (POOR, RICH, ((), ())):
            self.refuses(window, NotNow, window.set_keeper, keeper, number=1)
        window = Window(LAST, NEWEST, RICH)
        for kind in (1, 1, 0):
            window.enter(kind)
        self.refuses(window, NotNow, window.set_keeper, ((), ()), number=2)
        self.refuses(window, NotNow, window.set_keeper, (RICH[0][1:], RICH[1]), number=2)
        # More slips than the least number: back from one of them there is no exchange.
        use = ("any", (0, 1))
        own = own_slips(SUM, use)
        window = Window(SUM, use, keeper_of(SUM, use))
        window.enter(1)
        self.refuses(window, NotNow, window.set_keeper, own, number=0)
        window.leave(0)
        window.set_keeper(own)
        window.enter(0)
        self.assertIsNone(window.set_keeper(keeper_of(SUM, use)))
        self.same(window.slip(1), 0)

    def test_the_content_becomes_the_due_one(self):
        window = Window(LAST, NEWEST, POOR)
        for kind in (1, 0):
            window.enter(kind)
        window.leave(1)
        self.has(window, (0,), (2,), (0,))
        window.set_keeper(POOR)
        self.has(window, (2,), (2,), (0,))


class TestCheckpoints(WindowCase):
    def test_four_and_one_more(self):
        window = Window(SUM, ("any", (0,)))
        for number in range(4):
            self.same(self.answer(window.checkpoint), number)
            window.enter(0)
        self.refuses(window, LimitExceeded, window.checkpoint, limit=4)
        window.restore(0)
        self.refuses(window, LimitExceeded, window.checkpoint, limit=4)

    def test_unknown_ones(self):
        window = Window(SUM, ("any", (0,)))
        self.refuses(window, UnknownCheckpoint, window.restore, 0, number=0)
        window.checkpoint()
        window.checkpoint()
        window.enter(0)
        for number in NO_NUMBERS + (2, -1, True, False):
            self.refuses(window, UnknownCheckpoint, window.restore, number, number=number)
        self.assertIsNone(self.answer(window.restore, number=1))
        self.assertEqual(window.inside(), ())

    def test_again_and_again(self):
        window = Window(SUM, ("any", (0,)))
        for kind in (0, 1):
            window.enter(kind)
        window.checkpoint()
        kept = state(window)[1:-1]
        for turn in range(5):
            self.same(window.enter(turn % 2), 2)
            self.same(window.enter(0), 3)
            window.leave(0)
            if turn == 2:
                self.same(window.checkpoint(), 1)
            self.assertIsNone(window.restore(0))
            self.same(state(window)[1:-1], kept)
            self.assertEqual(len(window), 2 + 3 * (turn + 1))
        # Those made later stay, too.
        window.restore(1)
        self.assertEqual(window.inside(), (1, 2, 3))
        self.same(window.enter(0), 4)
        window.restore(0)
        self.same(window.enter(0), 2)

    def test_it_keeps_the_house_the_use_and_the_keeper_and_no_records(self):
        window = Window(LAST, NEWEST, POOR)
        for kind in (1, 0):
            window.enter(kind)
        window.leave(1)
        window.checkpoint()
        window.record(("can", NEWEST))
        window.set_kind(0, (), RICH)
        window.set_use(("any", (0,)))
        window.enter(0)
        window.checkpoint()
        window.record(("can", NEWEST))
        window.restore(0)
        self.same((window.house(), window.use(), window.keeper()), (LAST, NEWEST, POOR))
        self.has(window, (0,), (2,), (0,))
        self.same((len(window), window.records()), (4, 2))
        window.restore(1)
        self.same((window.house()[2][0], window.use(), window.inside()), ((), ("any", (0,)), (0, 2)))
        self.same((len(window), window.records()), (4, 2))

    def test_slips_that_were_exchanged(self):
        window = Window(LAST, NEWEST, RICH)
        window.enter(0)
        window.checkpoint()
        window.set_keeper(OTHER)
        self.same(window.slip(0), 5)
        window.restore(0)
        self.same((window.slip(0), window.keeper()), (0, RICH))
        window.leave(0)
        self.assertTrue(window.is_due())


class TestRecords(WindowCase):
    def test_decide_is_for_the_house_as_it_is(self):
        window = Window(LAST, NEWEST, RICH)
        for claim in (("can", NEWEST), ("least", NEWEST, 0, 3), ("right", NEWEST, POOR), ("sets", "any", ())):
            self.same(self.answer(window.decide, claim), decide(LAST, claim))
            window.set_kind(1, ())
            self.same(window.decide(claim=claim), decide(window.house(), claim))
            window.set_kind(1, LAST[2][1])
        self.assertEqual(window.records(), 0)
        for value in NOWHERE + (("can", ("newest", (2,))), ("least", NEWEST, 0, 9)):
            self.refuses(window, InvalidClaim, window.decide, value)
            self.refuses(window, InvalidClaim, window.record, value)

    def test_eight_and_one_more(self):
        window = Window(LAST, NEWEST, RICH)
        for number in range(8):
            self.same(window.records(), number)
            self.same(self.answer(window.record, ("least", NEWEST, 0, number + 1)), number)
        for claim in (("can", NEWEST), None, ("can",), ("least", NEWEST, 0, 9)):
            self.refuses(window, LimitExceeded, window.record, claim, limit=8)
        for number in range(8):
            self.same(window.recorded(number), decide(LAST, ("least", NEWEST, 0, number + 1)))
            self.assertIsNone(self.answer(window.standing, number))
        self.same(window.decide(("can", NEWEST))[0], "shown")

    def test_unknown_ones(self):
        window = Window(LAST, NEWEST, RICH)
        for call in (window.recorded, window.standing):
            self.refuses(window, UnknownRecord, call, 0, number=0)
        window.record(claim=("can", NEWEST))
        for number in NO_NUMBERS + (1, -1, True, False):
            for call in (window.recorded, window.standing):
                self.refuses(window, UnknownRecord, call, number, number=number)
        self.same(window.recorded(number=0)[0], "shown")
        self.assertIsNone(window.standing(number=0))

    def test_a_record_stands_falls_and_stands_again(self):
        window = Window(LAST, NEWEST, RICH)
        window.record(("least", NEWEST, 0, 3))
        window.record(("sets", "any", ()))
        for _ in range(2):
            self.assertIsNone(window.standing(0))
            self.assertIsNone(window.standing(1))
            window.set_kind(0, (("set", 0, 0),))
            self.same(window.standing(0), first_fault(window.house(), window.recorded(0)))
            self.assertEqual(window.standing(0)[0], "part")
            window.set_kind(0, ())
            self.assertEqual(window.standing(1)[0], "set")
            window.set_kind(0, LAST[2][0])

    def test_a_claim_that_is_not_valid_any_more_cannot_be(self):
        # Sizes and the number of kinds stay, so a claim stays valid, whatever a kind becomes.
        window = Window(LAST, NEWEST, RICH)
        window.record(("exchange", NEWEST, RICH, POOR))
        window.set_kind(1, ())
        self.assertNotEqual(window.standing(0), ("claim",))


class TestWhole(WindowCase):
    def test_two_windows_side_by_side(self):
        one, two = Window(SUM, ("any", (0,))), Window(SUM, ("any", (0,)))
        before = state(two)
        one.enter(0)
        one.enter(1)
        one.checkpoint()
        one.record(("can", ("any", (0,))))
        one.leave(0)
        one.set_use(("any", (0,)))
        one.set_kind(0, ())
        self.same(state(two), before)
        self.refuses(two, UnknownCheckpoint, two.restore, 0, number=0)
        before = state(one)
        two.enter(0)
        two.checkpoint()
        two.leave(0)
        two.set_keeper(own_slips(SUM, ("any", (0,)), every=True))
        self.same(state(one), before)

    def test_one_made_behind_another_one_is_as_the_first_one(self):
        def played(house):
            window = Window(house, ("oldest", (0, 1)))
            for kind in (0, 1, 0):
                window.enter(kind)
            window.leave(0)
            return state(window)

        first = played(SUM)
        played(TURN)
        self.same(played(SUM), first)

    def test_drawn_calls(self):
        draw = random.Random("windows")
        done = {}
        houses = HOUSES + (ROUND, COUNTS) + tuple(some_houses(12, "windows"))
        for house in houses:
            uses = uses_that_go(house)
            for use in draw.sample(uses, min(3, len(uses))):
                play = Play(self, house, use, draw)
                for _ in range(120):
                    play.turn()
                for name, many in play.done.items():
                    done[name] = done.get(name, 0) + many
        # Each method has been called with effect, and each refusal has been met.
        self.assertEqual(set(done), {
            "enter", "leave", "set_use", "set_kind", "set_keeper", "checkpoint", "restore", "NotNow", "Stays", "Never",
            "LimitExceeded",
        })
        self.assertGreater(min(done.values()), 20)

    def test_drawn_calls_with_keepers_that_err(self):
        draw = random.Random("errors")
        wrong = 0
        for house in HOUSES + tuple(some_houses(6, "errors")):
            for use in draw.sample(all_uses(house), min(4, len(all_uses(house)))):
                for keeper in spoiled(house, own_slips(house, use), draw):
                    window = Window(house, use, keeper)
                    there, content = [], house[1]
                    for _ in range(30):
                        content = self.one_event(window, there, content, draw)
                        self.same(window.due(), after(house, house[1], [kind for _, kind in there]))
                        self.assertIs(window.is_due(), window.content() == window.due())
                        wrong += not window.is_due()
        self.assertGreater(wrong, 100)

    def one_event(self, window, there, content, draw):
        """Let one event happen to a window, and to the entries and the content beside it; return the content."""
        house, (order, goers), keeper = window.house(), window.use(), window.keeper()
        theirs = [number for number, kind in there if kind in goers]
        if theirs and draw.random() < 0.5:
            number = {"any": draw.choice(theirs), "oldest": theirs[0], "newest": theirs[-1]}[order]
            key = (dict(there)[number], window.slip(number), content)
            newer = {row[:3]: row[3] for row in keeper[1]}.get(key)
            if newer is None:
                self.refuses(window, Lacking, window.leave, number, number=number)
                return content
            window.leave(number)
            there[:] = [entry for entry in there if entry[0] != number]
            self.same(window.content(), newer)
            return newer
        kind = draw.randrange(len(house[2]))
        slip = {row[:2]: row[2] for row in keeper[0]}.get((kind, content))
        following = max([number for number, _ in there], default=-1) + 1
        if kind in goers and slip is None:
            before = state(window)
            self.assertGreaterEqual(self.error(Lacking, window.enter, kind).number, following)
            self.same(state(window), before)
            return content
        number = window.enter(kind)
        self.assertGreaterEqual(number, following)
        self.same(window.slip(number), slip)
        there.append((number, kind))
        self.same(window.content(), after(house, content, (kind,)))
        return window.content()


class Play:
    """A window with right keepers, drawn calls of it, and what is told of it beside."""

    def __init__(self, case, house, use, draw):
        self.case, self.draw = case, draw
        self.window = Window(house, use, draw.choice((None, own_slips(house, use))))
        self.there, self.number, self.many = [], 0, 0
        self.kept, self.done = [], {}

    def turn(self):
        """Do one drawn call, and check the window behind it."""
        seldom = ("set_use", "set_kind", "set_keeper", "restore", "checkpoint", "clear")
        name = self.draw.choice(("enter",) * 6 + ("leave",) * 6 + seldom)
        getattr(self, name)()
        window = self.window
        house, use = window.house(), window.use()
        self.case.assertIsNone(first_error(house, use, window.keeper()))
        due = after(house, house[1], [kind for _, kind, _ in self.there])
        self.case.has(window, due, due, tuple(number for number, _, _ in self.there))
        self.case.assertEqual(len(window), self.many)
        for at, (number, kind, ahead) in enumerate(self.there):
            self.case.same(window.kind_of(number), kind)
            self.case.assertEqual(window.slip(number) is None, kind not in use[1])
            if kind in use[1]:
                still = {entry[0] for entry in self.there}
                gone = tuple(index for index, entry in enumerate(ahead) if entry[0] not in still)
                later = tuple(entry[1] for entry in self.there[at + 1:])
                self.case.same(window.case(number), (tuple(entry[1] for entry in ahead), gone, later))

    def did(self, name):
        self.done[name] = self.done.get(name, 0) + 1

    def refused(self, error, call, *arguments, **kept):
        self.did(error.__name__)
        self.case.refuses(self.window, error, call, *arguments, **kept)

    def numbers_of(self, kinds):
        return [number for number, kind, _ in self.there if kind in kinds]

    def enter(self):
        kind = self.draw.randrange(len(self.window.house()[2]))
        if len(self.there) == 100:
            self.refused(LimitExceeded, self.window.enter, kind, limit=100)
            return
        self.case.same(self.window.enter(kind), self.number)
        self.there.append((self.number, kind, [entry[:2] for entry in self.there]))
        self.number += 1
        self.many += 1
        self.did("enter")

    def leave(self):
        order, goers = self.window.use()
        if not self.there:
            return
        number, kind, _ = self.draw.choice(self.there)
        theirs = self.numbers_of(goers)
        if kind not in goers:
            self.refused(Stays, self.window.leave, number, number=number)
        elif number != {"any": number, "oldest": theirs[0], "newest": theirs[-1]}[order]:
            self.refused(NotNow, self.window.leave, number, number=number)
        else:
            self.case.assertIsNone(self.window.leave(number))
            self.there = [entry for entry in self.there if entry[0] != number]
            self.many += 1
            self.did("leave")

    def clear(self):
        """Let all go who may."""
        while self.numbers_of(self.window.use()[1]):
            self.leave()

    def changes(self, name, house, use, touched, call):
        """Check a change of the house or the use, by a call with a keeper or None."""
        keeper = self.draw.choice((None, own_slips(house, use)))
        numbers = self.numbers_of(touched)
        if numbers:
            self.refused(NotNow, call, keeper, number=numbers[0])
        elif use in uses_that_go(house):
            self.case.assertIsNone(call(keeper))
            self.did(name)
        else:
            never = self.case.error(Never, keeper_of, house, use).kind
            self.refused(Never, call, None, kind=never)

    def set_use(self):
        use = self.draw.choice(all_uses(self.window.house()))
        touched = self.window.use()[1] + use[1]
        self.changes("set_use", self.window.house(), use, touched, lambda keeper: self.window.set_use(use, keeper))

    def set_kind(self):
        sizes, begin, kinds = self.window.house()
        index = self.draw.randrange(len(kinds))
        kind = self.draw.choice(((), (("add", 0, 1),), (("set", 0, 1),), (("up", 0, 1),), kinds[0], kinds[-1]))
        house = (sizes, begin, kinds[:index] + (kind,) + kinds[index + 1:])
        touched = self.window.use()[1] + (index,)
        self.changes(
            "set_kind", house, self.window.use(), touched, lambda keeper: self.window.set_kind(index, kind, keeper)
        )

    def set_keeper(self):
        house, use, old = self.window.house(), self.window.use(), self.window.keeper()
        new = self.draw.choice((keeper_of(house, use), own_slips(house, use), own_slips(house, use, every=True)))
        exchange = exchange_of(house, use, old, new)
        numbers = self.numbers_of(use[1])
        if numbers and exchange is None:
            self.refused(NotNow, self.window.set_keeper, new, number=numbers[0])
            return
        before = {number: self.window.slip(number) for number in numbers}
        self.case.assertIsNone(self.window.set_keeper(new))
        for number, slip in before.items():
            self.case.assertIn((self.window.kind_of(number), slip, self.window.slip(number)), exchange)
        self.did("set_keeper")

    def checkpoint(self):
        if len(self.kept) == 4:
            self.refused(LimitExceeded, self.window.checkpoint, limit=4)
            return
        self.case.same(self.window.checkpoint(), len(self.kept))
        self.kept.append((self.there[:], self.number, state(self.window)[1:-1]))
        self.did("checkpoint")

    def restore(self):
        if self.kept:
            at = self.draw.randrange(len(self.kept))
            there, self.number, kept = self.kept[at]
            self.there = there[:]
            self.case.assertIsNone(self.window.restore(at))
            self.case.same(state(self.window)[1:-1], kept)
            self.did("restore")


if __name__ == "__main__":
    unittest.main()
