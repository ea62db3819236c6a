import itertools
import unittest

from doorslips.histories import due, inside, is_history
from doorslips.kinds import after
from tests.helper import (
    EIGHT, FOUR, GATE, GREATEST, HOUSES, HUGE, LAST, NOWHERE, ORDERS, TURN, Case, all_histories, all_uses,
    entries_after, nested, some_houses,
)


def history_of(*signs):
    """Return a history: +k for an entry of kind k that comes, -n for the entry n that goes."""
    return tuple(("in" if sign[0] == "+" else "out", int(sign[1:])) for sign in signs)


class HistoryCase(Case):
    def tells(self, expected, house, use, value):
        with self.subTest(kinds=len(house[2]), use=use, value=repr(value)[:90]):
            self.assertIs(self.answer(is_history, house, use, value), expected)

    def right(self, house, use, *signs):
        self.tells(True, house, use, history_of(*signs))

    def wrong(self, house, use, *signs):
        self.tells(False, house, use, history_of(*signs))


class TestRightHistories(HistoryCase):
    def test_no_event(self):
        for house in HOUSES:
            for use in all_uses(house):
                self.tells(True, house, use, ())

    def test_each_kind_comes_whether_a_goer_or_not(self):
        for house in HOUSES:
            for use in all_uses(house):
                for kind in range(len(house[2])):
                    self.tells(True, house, use, (("in", kind),))
                self.tells(True, house, use, tuple(("in", kind) for kind in range(len(house[2]))) * 3)

    def test_oldest_is_the_first_one_in_of_all_that_are_of_goers(self):
        self.right(TURN, ("oldest", (0, 1)), "+0", "+1", "+0", "-0", "-1", "-2")
        self.right(TURN, ("oldest", (0,)), "+1", "+0", "+1", "+0", "-1", "+0", "-3", "-4")
        self.right(GATE, ("oldest", (0, 2)), "+1", "+2", "+1", "+0", "+1", "-1", "-3")
        self.right(FOUR, ("oldest", (1, 3)), "+0", "+3", "+2", "+1", "+3", "-1", "-3", "+1", "-4", "-5")

    def test_newest_is_the_last_one_in_of_all_that_are_of_goers(self):
        self.right(TURN, ("newest", (0, 1)), "+0", "+1", "+0", "-2", "-1", "-0")
        self.right(TURN, ("newest", (0,)), "+1", "+0", "+1", "+0", "-3", "+0", "+1", "-4", "-1")
        self.right(GATE, ("newest", (0, 2)), "+1", "+2", "+1", "+0", "+1", "-3", "-1")
        self.right(FOUR, ("newest", (1, 3)), "+0", "+3", "+2", "+1", "+3", "-4", "-3", "+1", "-5", "-1")

    def test_any_is_whichever_that_is_of_goers(self):
        for goes in itertools.permutations(("-0", "-1", "-2", "-3")):
            self.right(TURN, ("any", (0, 1)), "+0", "+1", "+0", "+1", *goes)
        for goes in itertools.permutations(("-1", "-2", "-4")):
            self.right(GATE, ("any", (1, 2)), "+0", "+1", "+2", "+0", "+1", *goes)

    def test_numbers_are_not_used_again(self):
        for order in ORDERS:
            self.right(LAST, (order, (0,)), "+0", "-0", "+0", "-1", "+1", "+0", "-3")
            self.wrong(LAST, (order, (0,)), "+0", "-0", "+0", "-0")

    def test_four_hundred_events(self):
        for order in ORDERS:
            self.tells(True, TURN, (order, (0,)), (("in", 0),) * 400)
            self.tells(True, TURN, (order, (0,)), (("in", 1), ("in", 0)) * 200)
        comes = (("in", 1),) * 200
        self.tells(True, LAST, ("oldest", (1,)), comes + tuple(("out", number) for number in range(200)))
        self.tells(True, LAST, ("newest", (1,)), comes + tuple(("out", 199 - number) for number in range(200)))
        self.tells(True, LAST, ("any", (1,)), comes + tuple(("out", 7 * number % 200) for number in range(200)))
        turns = tuple(event for number in range(200) for event in (("in", 0), ("out", number)))
        for order in ORDERS:
            self.tells(True, LAST, (order, (0, 1)), turns)

    def test_each_history_of_few_events_and_each_other_tuple_of_them(self):
        for house in (LAST, GREATEST):
            events = [("in", kind) for kind in range(-1, len(house[2]) + 1)]
            events += [("out", number) for number in range(-1, 4)]
            for use in all_uses(house):
                for size in range(4):
                    for value in itertools.product(events, repeat=size):
                        kinds = [kind for word, kind in value if word == "in"]
                        known = all(0 <= kind < len(house[2]) for kind in kinds)
                        expected = known and entries_after(use, value) is not None
                        self.assertIs(is_history(house, use, value), expected, (house, use, value))

    def test_by_name(self):
        self.assertIs(self.answer(is_history, value=(("in", 1),), use=("any", (0,)), house=TURN), True)


class TestWrongHistories(HistoryCase):
    def test_too_many_events(self):
        for order in ORDERS:
            for many in (401, 402, 1000):
                self.tells(False, TURN, (order, (0,)), (("in", 0),) * many)
                self.tells(False, TURN, (order, (0, 1)), (("in", 1),) * many)
        turns = tuple(event for number in range(201) for event in (("in", 0), ("out", number)))
        self.tells(True, LAST, ("any", (0,)), turns[:400])
        self.tells(False, LAST, ("any", (0,)), turns[:401])
        self.tells(False, LAST, ("any", (0,)), turns)

    def test_events_of_other_forms(self):
        for event in (
            ("on", 0), ("", 0), ("In", 0), ("IN", 0), ("in ", 0), ("inn", 0), ("i", 0), ("enter", 0), (0, "in"),
            (None, 0), (0, 0), (True, 0), (("in",), 0), (["in"], 0), (("in", "out"), 0), ({"in": 0}, 0),
            (), ("in",), (0,), ("in", 0, 0), ("in", 0, None), ("in", ()), ("in", (0,)), ("in", [0]), ("in", {0: 0}),
            ("in", "0"), ("in", None), ("in", "in"), ["in", 0], [("in", 0)], (("in", 0),), "in", "in0", {"in": 0},
            {0: "in", 1: 0}, None, 0, True,
        ):
            for use in (("any", (0,)), ("oldest", (0, 1)), ("newest", (1,))):
                self.tells(False, TURN, use, (event,))
                self.tells(False, TURN, use, (("in", 0), event))
                self.tells(False, TURN, use, (event, ("in", 0)))

    def test_goings_of_other_forms(self):
        for event in (
            ("Out", 0), ("out ", 0), ("go", 0), ("out",), ("out", 0, 0), ["out", 0], ("out", "0"), ("out", None),
            ("out", (0,)), ("out", [0]), ("out", {0: 0}), ("out", False), ("out", -1), ("out", -2), ("out", ()),
        ):
            for order in ORDERS:
                self.tells(False, TURN, (order, (0, 1)), (("in", 0), event))
                self.tells(False, TURN, (order, (0, 1)), (("in", 0), ("in", 1), event))

    def test_kinds_that_the_house_does_not_have(self):
        for house in HOUSES:
            many = len(house[2])
            for use in all_uses(house):
                for kind in (many, many + 1, -1, -many, 400, HUGE, -HUGE, True, False):
                    self.tells(False, house, use, (("in", kind),))
                    self.tells(False, house, use, (("in", 0), ("in", kind)))

    def test_numbers_of_no_entry(self):
        for order in ORDERS:
            for number in (1, 2, 399, 400, 401, HUGE, -1, -HUGE, True, False):
                self.tells(False, TURN, (order, (0, 1)), (("in", 0), ("out", number)))
        for order, number in (("oldest", False), ("newest", True), ("any", False), ("any", True)):
            self.tells(False, TURN, (order, (0, 1)), (("in", 0), ("in", 0), ("out", number)))

    def test_who_has_not_come_goes_not(self):
        for order in ORDERS:
            self.wrong(TURN, (order, (0, 1)), "-0")
            self.wrong(TURN, (order, (0, 1)), "-0", "+0")
            self.wrong(TURN, (order, (0, 1)), "+0", "-1", "+0")
            self.wrong(TURN, (order, (0, 1)), "+0", "-0", "-1", "+1")

    def test_who_went_goes_not_again(self):
        for order in ORDERS:
            self.wrong(TURN, (order, (0, 1)), "+0", "-0", "-0")
            self.wrong(TURN, (order, (0,)), "+1", "+0", "-1", "+1", "-1")
        self.wrong(TURN, ("any", (0, 1)), "+0", "+1", "-0", "-0")
        self.wrong(TURN, ("oldest", (0, 1)), "+0", "+1", "-0", "-0")
        self.wrong(TURN, ("newest", (0, 1)), "+0", "+1", "-1", "-1")

    def test_who_is_of_no_goer_stays(self):
        for order in ORDERS:
            self.wrong(TURN, (order, (0,)), "+1", "-0")
            self.wrong(TURN, (order, (1,)), "+0", "-0")
            self.wrong(TURN, (order, (1,)), "+0", "+1", "-0")
            self.wrong(TURN, (order, (1,)), "+1", "+0", "-1")
            self.wrong(GATE, (order, (0, 2)), "+0", "+1", "+2", "-1")

    def test_whose_turn_it_is_not(self):
        self.wrong(TURN, ("oldest", (0, 1)), "+0", "+1", "-1")
        self.wrong(TURN, ("oldest", (0,)), "+1", "+0", "+0", "-2")
        self.wrong(TURN, ("oldest", (0,)), "+0", "+0", "+0", "-0", "-2")
        self.wrong(GATE, ("oldest", (0, 2)), "+0", "+1", "+2", "-2")
        self.wrong(TURN, ("newest", (0, 1)), "+0", "+1", "-0")
        self.wrong(TURN, ("newest", (0,)), "+0", "+0", "+1", "-0")
        self.wrong(TURN, ("newest", (0,)), "+0", "+0", "+0", "-2", "-0")
        self.wrong(GATE, ("newest", (0, 2)), "+0", "+1", "+2", "-0")
        self.right(TURN, ("any", (0, 1)), "+0", "+1", "-1")
        self.right(TURN, ("any", (0, 1)), "+0", "+1", "-0")

    def test_lists_in_the_place_of_tuples(self):
        for use in (("any", (0,)), ("oldest", (0,)), ("newest", (0,))):
            for value in (
                [], [("in", 0)], [["in", 0]], (["in", 0],), (["in", 0], ("out", 0)), (("in", 0), ["out", 0]),
                [("in", 0), ("out", 0)], (("in", [0]),), (([("in", 0)]),), ([],), [()],
            ):
                self.tells(False, TURN, use, value)

    def test_values_of_any_other_kind(self):
        others = NOWHERE + (
            "inn", "out", "in 0", ("in",), ("in", 0, "in", 0), {("in", 0): 0}, {0: ("in", 0)}, ((),), TURN,
            nested(39, lambda inner: ("in", inner)), nested(40, lambda inner: (("in", 0), inner)),
            nested(40, lambda inner: (inner, ("in", 0))), (("in", 0),) * 60000,
        )
        for use in (("any", (0,)), ("oldest", (0, 1)), ("newest", (1,))):
            for value in others:
                self.tells(False, TURN, use, value)
                self.tells(False, TURN, use, (("in", 0), value))
                self.tells(False, TURN, use, (("in", value),))
                self.tells(False, TURN, use, (("in", 0), ("out", value)))
                self.tells(False, TURN, use, ((value, 0),))


class TestInsideAndDue(Case):
    def leaves(self, house, use, history, numbers, content):
        with self.subTest(use=use, history=repr(history)[:90]):
            self.same(self.answer(inside, house, use, history), numbers)
            self.same(self.answer(due, house, use, history), content)

    def test_no_event(self):
        for house in HOUSES:
            for use in all_uses(house):
                self.leaves(house, use, (), (), house[1])

    def test_entries_that_came_and_went(self):
        use = ("any", (0,))
        self.leaves(TURN, use, history_of("+0"), (0,), (0, 1))
        self.leaves(TURN, use, history_of("+0", "+1"), (0, 1), (1, 1))
        self.leaves(TURN, use, history_of("+0", "+1", "+0"), (0, 1, 2), (1, 0))
        self.leaves(TURN, use, history_of("+0", "+1", "+0", "-0"), (1, 2), (1, 2))
        self.leaves(TURN, use, history_of("+0", "+1", "+0", "-0", "-2"), (1,), (1, 0))
        self.leaves(TURN, use, history_of("+0", "+1", "+0", "-2", "+1", "-0", "+0"), (1, 3, 4), (0, 1))
        self.leaves(LAST, ("newest", (0, 1)), history_of("+0", "+1", "-1"), (0,), (1,))
        self.leaves(LAST, ("newest", (0, 1)), history_of("+0", "+1", "-1", "-0"), (), (0,))
        self.leaves(LAST, ("oldest", (0, 1)), history_of("+0", "+1", "-0"), (1,), (2,))
        self.leaves(LAST, ("oldest", (0, 1)), history_of("+0", "-0", "+0", "-1", "+0"), (2,), (1,))

    def test_those_of_no_goer_stay_in(self):
        self.leaves(GREATEST, ("oldest", (2,)), history_of("+1", "+2", "+0", "-1"), (0, 2), (1,))
        self.leaves(GREATEST, ("newest", (0, 1)), history_of("+2", "+1", "+0", "-2", "-1"), (0,), (2,))
        self.leaves(EIGHT, ("any", (0,)), history_of("+1", "+0", "+1", "+1", "-1"), (0, 2, 3), (3,))

    def test_four_hundred_events(self):
        turns = tuple(event for number in range(200) for event in (("in", 1), ("out", number)))
        for order in ORDERS:
            self.leaves(EIGHT, (order, (1,)), turns, (), (0,))
            self.leaves(EIGHT, (order, (1,)), (("in", 1),) * 400, tuple(range(400)), (0,))
            self.leaves(EIGHT, (order, (1,)), (("in", 1),) * 397, tuple(range(397)), (5,))
        comes = (("in", 1),) * 203
        oldest = comes + tuple(("out", number) for number in range(197))
        self.leaves(EIGHT, ("oldest", (1,)), oldest, (197, 198, 199, 200, 201, 202), (6,))
        newest = comes + tuple(("out", 202 - number) for number in range(197))
        self.leaves(EIGHT, ("newest", (0, 1)), newest, (0, 1, 2, 3, 4, 5), (6,))

    def test_somewhat_more_events(self):
        turns = tuple(event for number in range(250) for event in (("in", 1), ("out", number)))
        self.leaves(EIGHT, ("any", (1,)), turns + (("in", 1),), (250,), (1,))

    def test_as_if_they_that_went_had_never_come(self):
        for house in (TURN, GATE):
            for use in all_uses(house):
                for history in all_histories(house, use, 5 if house == TURN else 4):
                    there = entries_after(use, history)
                    self.assertIs(is_history(house, use, history), True)
                    self.assertEqual(inside(house, use, history), tuple(number for number, _ in there))
                    found = due(house, use, history)
                    self.assertEqual(found, after(house, house[1], tuple(kind for _, kind in there)))
                    self.assertEqual(found, due(house, use, tuple(("in", kind) for _, kind in there)))

    def test_houses_of_all_sizes(self):
        for house in some_houses(40, "histories"):
            for use in all_uses(house):
                for number in range(3):
                    history = (("in", 0), ("in", use[1][-1]), ("in", 0), ("out", number))
                    there = entries_after(use, history)
                    self.assertIs(self.answer(is_history, house, use, history), there is not None)
                    if there is not None:
                        content = after(house, house[1], tuple(kind for _, kind in there))
                        self.leaves(house, use, history, tuple(entry for entry, _ in there), content)

    def test_by_name(self):
        history = history_of("+0", "+1", "-0")
        self.same(self.answer(inside, history=history, use=("any", (0,)), house=TURN), (1,))
        self.same(self.answer(due, history=history, use=("any", (0,)), house=TURN), (1, 0))


if __name__ == "__main__":
    unittest.main()
