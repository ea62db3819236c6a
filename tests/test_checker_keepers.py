"""The checker: the faults of claims about keepers, their errors and their exchanges."""

import unittest

from doorslips.claims import decide
from doorslips.keepers import first_error, keeper_of
from doorslips.uses import all_sets
from tests.helper import FOUR, GREATEST, LAST, ORDERS, ROUND, SUM, TURN, cells, put
from tests.test_checker import NEWEST, CheckerCase

# By this one, all who come to LAST get one slip; it errs if one comes behind another one and goes.
POOR = (((0, (0,), 0), (0, (1,), 0), (0, (2,), 0)), ((0, 0, (1,), (0,)), (0, 0, (2,), (2,))))
KEEPER = (
    ((0, (0,), 0), (0, (1,), 1), (0, (2,), 2)),
    (
        (0, 0, (1,), (0,)), (0, 0, (2,), (2,)), (0, 1, (1,), (1,)), (0, 1, (2,), (2,)), (0, 2, (1,), (2,)),
        (0, 2, (2,), (2,)),
    ),
)
# What shows that it is right.
PAIRS = cells((0, 0), (1, 1), (2, 2))
ROWS = KEEPER[1]
COME, GO = (("in", 0), ("in", 1)), tuple(("out", number) for number in range(4))
ERROR = (COME[0], COME[0], GO[1])


def without(rows, at):
    """Return rows without one of them."""
    return rows[:at] + rows[at + 1:]


class TestRight(CheckerCase):
    def shown(self, keeper, pairs, rows, expected, use=NEWEST, house=LAST):
        self.fault(house, ("shown", ("right", use, keeper), (pairs, rows)), expected)

    def test_shown(self):
        self.shown(KEEPER, PAIRS, ROWS, None)
        self.same(decide(LAST, ("right", NEWEST, KEEPER)), ("shown", ("right", NEWEST, KEEPER), (PAIRS, ROWS)))

    def test_start_and_pair(self):
        self.shown(KEEPER, PAIRS[1:], ROWS, ("start",))
        self.shown(KEEPER, (), (), ("start",))
        self.shown(((), ()), (), (), ("start",))
        self.shown(KEEPER, PAIRS[:1], ROWS, ("pair", 0, 0))
        self.shown(KEEPER, PAIRS[:2], ROWS, ("pair", 0, 1))
        self.shown(((), ()), PAIRS[:2], (), ("pair", 0, 1))

    def test_slip(self):
        for at in range(3):
            self.shown((without(KEEPER[0], at), KEEPER[1]), PAIRS, ROWS, ("slip", at, 0))
            self.shown((without(KEEPER[0], at), KEEPER[1]), PAIRS, (), ("slip", at, 0))
        both = ("newest", (0, 1))
        slips = keeper_of(LAST, both)[0]
        for at, place in ((0, (0, 0)), (2, (2, 0)), (3, (0, 1)), (5, (2, 1))):
            self.shown((without(slips, at), ()), PAIRS, (), ("slip",) + place, both)
        self.shown((slips[1:4], ()), PAIRS, (), ("slip", 0, 0), both)
        # By "oldest", the pair (1, 2) is there, too: the slip is that of its first part.
        pairs = cells((0, 0), (1, 0), (1, 2), (2, 2))
        self.shown((without(KEEPER[0], 2), ()), pairs, (), ("slip", 3, 0), ("oldest", (0,)))
        self.shown((without(KEEPER[0], 1), ()), pairs, (), ("slip", 1, 0), ("oldest", (0,)))

    def test_row(self):
        for at, index in ((0, 0), (2, 1), (4, 2)):
            self.shown(KEEPER, PAIRS, without(ROWS, at), ("row", index, 0))
        self.shown(KEEPER, PAIRS, (), ("row", 0, 0))
        self.shown(KEEPER, PAIRS, ((0, 0, (1,), (1,)),) + ROWS[1:], ("row", 0, 0))
        # The same row by another slip is another row.
        self.shown(POOR, PAIRS, ROWS, ("row", 1, 0))
        both = ("newest", (0, 1))
        keeper = keeper_of(LAST, both)
        self.shown(keeper, PAIRS, keeper[1], None, both)
        self.assertEqual([row[:2] for row in keeper[1]], [(kind, slip) for kind in (0, 1) for slip in range(3)])
        for at, place in ((1, (1, 0)), (3, (0, 1)), (5, (2, 1))):
            self.shown(keeper, PAIRS, without(keeper[1], at), ("row",) + place, both)

    def test_later(self):
        for at, index in ((1, 0), (3, 2), (5, 4)):
            self.shown(KEEPER, PAIRS, without(ROWS, at), ("later", index, 1))
        # A row that no pair asks for asks for its later ones, too.
        self.shown(KEEPER, PAIRS, ROWS + ((0, 7, (0,), (1,)),), ("later", 6, 1))

    def test_going(self):
        more = ((0, 7, (0,), (1,)), (0, 7, (2,), (2,)))
        self.shown(KEEPER, PAIRS, ROWS + more, ("going", 6))
        self.shown((KEEPER[0], KEEPER[1] + more), PAIRS, ROWS + more, None)
        self.shown((KEEPER[0], KEEPER[1] + more), PAIRS, ROWS, None)
        for at in range(6):
            self.shown((KEEPER[0], without(KEEPER[1], at)), PAIRS, ROWS, ("going", at))
            row = KEEPER[1][at]
            other = row[:3] + (((row[3][0] + 1) % 3,),)
            self.shown((KEEPER[0], KEEPER[1][:at] + (other,) + KEEPER[1][at + 1:]), PAIRS, ROWS, ("going", at))
        self.shown((KEEPER[0], ()), PAIRS, ROWS, ("going", 0))
        rows = ((0, 0, (1,), (0,)), (0, 0, (1,), (1,)), (0, 0, (1,), (2,)), (0, 0, (2,), (2,)))
        self.shown(POOR, PAIRS, rows, ("going", 1))

    def test_more_pairs_than_are_come_to(self):
        use = ("oldest", (0,))
        keeper = keeper_of(SUM, use)
        certificate = decide(SUM, ("right", use, keeper))
        self.right(SUM, certificate)
        house = ((4,), (0,), ((("when", 0, 0, 1, ("add", 0, 1)),), ()))
        slips = tuple((0, (value,), value) for value in range(4))
        rows = ((0, 0, (1,), (0,)), (0, 1, (2,), (1,)), (0, 2, (2,), (2,)), (0, 3, (3,), (3,)))
        pairs = cells((0, 0), (1, 1), (2, 2), (3, 3))
        self.shown((slips, rows), pairs, rows, None, NEWEST, house)
        self.shown((slips, rows), pairs[:3], rows, None, NEWEST, house)
        self.shown((slips, rows), pairs[:3], rows[:3], None, NEWEST, house)
        self.shown((slips, rows), pairs, rows[:3], ("row", 3, 0), NEWEST, house)
        # What is put in is judged, too: at the content that nobody comes to, the keeper must give a slip.
        self.shown((slips[:3], rows), pairs, rows, ("slip", 3, 0), NEWEST, house)
        self.shown((slips[:3], rows), pairs[:3], rows, None, NEWEST, house)

    def test_forms(self):
        for content in (
            (), (PAIRS,), (PAIRS, ROWS, ()), PAIRS, [PAIRS, ROWS], (list(PAIRS), ROWS), (PAIRS, list(ROWS)),
            (PAIRS[::-1], ROWS), (PAIRS, ROWS[::-1]), (PAIRS, ROWS + ROWS[5:]), (PAIRS, ((1, 0, (0,), (0,)),)),
            (PAIRS, ((0, 8, (0,), (0,)),)), (PAIRS, ((0, -1, (0,), (0,)),)), (PAIRS, ((0, 0, (3,), (0,)),)),
            (PAIRS, ((0, 0, (0,), (0,), (0,)),)), (PAIRS, ((0, 0, (0,)),)), (PAIRS, ((0, True, (0,), (0,)),)),
            (cells((0, 3)), ROWS), (((0,), (0,)), ROWS), (cells((0, 0), (0, 0)), ROWS), ERROR, None,
        ):
            self.fault(LAST, ("shown", ("right", NEWEST, KEEPER), content), ("form",))


class TestErrors(CheckerCase):
    def error(self, keeper, history, expected, use=NEWEST, house=LAST):
        """Check an error in each of the places where one may stand."""
        self.fault(house, ("broken", ("right", use, keeper), history), expected)
        longer = min(len(history) + 1, 400)
        if len(history) < longer:
            self.fault(house, ("broken", ("shortest", use, keeper, longer), ("less", history)), expected)

    def test_right_ones(self):
        self.error(POOR, ERROR, None)
        self.error(POOR, (COME[1], COME[0], ("out", 1)), None)
        self.error(((), ()), (COME[0],), None)
        self.error(((), ()), (COME[1], COME[1], COME[0]), None)
        self.error((POOR[0], ()), (COME[0], GO[0]), None)
        self.error(POOR, (COME[0], GO[0], COME[0], COME[0], ("out", 2)), None)

    def test_event(self):
        for history, at in (
            ((GO[0],), 0), ((COME[0], GO[1]), 1), ((COME[1], GO[0]), 1), ((COME[0], GO[0], GO[0]), 2),
            ((COME[0], COME[0], GO[0]), 2), ((COME[0], COME[1], COME[0], GO[0]), 3), (ERROR + (GO[2],), 3),
            ((COME[0], COME[0], ("out", 400)), 2), ((COME[0], ("out", 10 ** 29)), 1), ((GO[0], ("out", 5)), 0),
        ):
            self.error(POOR, history, ("event", at))
            self.error(KEEPER, history, ("event", at))
            self.error(((), ()), history, ("event", at))
        for order, history, at in (
            ("oldest", (COME[0], COME[0], GO[1]), 2), ("newest", (COME[0], COME[0], GO[0]), 2),
            ("oldest", (COME[0], COME[1], GO[1]), 2), ("any", (COME[0], COME[1], GO[1]), 2),
        ):
            self.error(((), ()), history, ("event", at), (order, (0,)))

    def test_early(self):
        self.error(POOR, ERROR + (COME[1],), ("early", 2))
        # It is wrong, and then right again.
        self.error(POOR, ERROR + (GO[0],), ("early", 2))
        self.error(POOR, ERROR + (COME[0], GO[2]), ("early", 2))
        self.error(((), ()), (COME[0], COME[0]), ("early", 0))
        self.error(((), ()), (COME[1], COME[0], COME[1], COME[0]), ("early", 1))
        self.error((POOR[0], ()), (COME[0], GO[0], COME[1]), ("early", 1))

    def test_no_error(self):
        self.error(POOR, (), ("right",))
        self.error(POOR, ERROR[:2], ("right",))
        self.error(POOR, (COME[0], GO[0]), ("right",))
        self.error(((), ()), (COME[1], COME[1]), ("right",))
        for history in ((), ERROR, ERROR + (GO[0],), (COME[0], COME[1])):
            self.error(KEEPER, history, ("right",))

    def test_400_events(self):
        comes = (COME[1],) * 398
        self.error(POOR, comes + (COME[0], ("out", 398)), None)
        self.error(KEEPER, comes + (COME[0], ("out", 398)), ("right",))
        self.error(POOR, (COME[1],) * 399 + (COME[0], ("out", 399)), ("form",))
        self.error(KEEPER, (COME[1],) * 401, ("form",))
        self.error(KEEPER, (COME[1],) * 400, ("right",))

    def test_forms(self):
        for history in (
            None, 0, "", [], [COME[0]], (["in", 0],), (("in",),), (("in", 0, 0),), (("in", 2),), (("in", -1),),
            (("in", True),), (("out", -1),), (("out", False),), (("out", "0"),), (("on", 0),), (COME[0], None), (0,),
            (("In", 0),), ((0, "in"),), ERROR + (("in", 2),), (("out", None),) + ERROR, (GO[0], ("in", 2)),
            (("in", None),),
        ):
            self.error(POOR, (), ("right",))
            self.fault(LAST, ("broken", ("right", NEWEST, POOR), history), ("form",))
            self.fault(LAST, ("broken", ("shortest", NEWEST, POOR, 4), ("less", history)), ("form",))
            self.fault(LAST, ("shown", ("shortest", NEWEST, POOR, 3), (history,) + decide(
                LAST, ("shortest", NEWEST, POOR, 3))[2][1:]), ("form",))


class TestShortest(CheckerCase):
    claim = ("shortest", NEWEST, POOR, 3)
    DOORS = (((0,), 0), ((1,), 1), ((2,), 1))
    PAIRS = (((0,), (0,), 0), ((1,), (1,), 1), ((2,), (2,), 1))
    ROWS = (
        (0, 0, (1,), (0,), 1), (0, 0, (1,), (1,), 2), (0, 0, (1,), (2,), 2), (0, 0, (2,), (2,), 2),
    )

    def shown(self, expected, history=ERROR, doors=DOORS, pairs=PAIRS, rows=ROWS, claim=claim):
        self.fault(LAST, ("shown", claim, (history, doors, pairs, rows)), expected)

    def more(self, expected, many=2, doors=DOORS, pairs=PAIRS, rows=ROWS, keeper=POOR):
        """Check the fault of costs against a claim, and, where no error is to be shown, of those for it."""
        claim = ("shortest", NEWEST, keeper, many)
        self.fault(LAST, ("broken", claim, ("more", doors, pairs, rows)), expected)

    def both(self, expected, doors=DOORS, pairs=PAIRS, rows=ROWS):
        self.shown(expected, doors=doors, pairs=pairs, rows=rows)
        self.more(expected, doors=doors, pairs=pairs, rows=rows)

    def test_right(self):
        self.both(None)
        content = (ERROR, self.DOORS, self.PAIRS, self.ROWS)
        found = decide(LAST, self.claim)
        self.same(found[2][1:], content[1:])
        self.right(LAST, found)
        self.more(None, many=1)
        self.more(("rows", ("low", 1)), many=3)

    def test_less(self):
        for many in (4, 5, 400):
            self.right(LAST, ("broken", ("shortest", NEWEST, POOR, many), ("less", ERROR)))
        for many in (1, 2, 3):
            self.fault(LAST, ("broken", ("shortest", NEWEST, POOR, many), ("less", ERROR)), ("events",))
            self.fault(LAST, ("broken", ("shortest", NEWEST, POOR, many), ("less", ERROR[:2])), ("right",))
            self.fault(LAST, ("broken", ("shortest", NEWEST, POOR, many), ("less", ERROR + ERROR[:1])), ("early", 2))

    def test_the_error_and_its_events(self):
        self.shown(("event", 0), history=(GO[0],))
        self.shown(("early", 2), history=ERROR + (GO[0],))
        self.shown(("right",), history=ERROR[:2])
        self.shown(("right",), history=())
        longer = (COME[1],) + ERROR[:2] + (("out", 2),)
        for many in (1, 2, 4):
            self.shown(("events",), claim=self.claim[:3] + (many,))
        self.shown(("events",), history=longer)
        # The error is looked at ahead of the number of its events, and this ahead of the costs.
        self.shown(("right",), history=ERROR[:2], doors=(), pairs=(), rows=())
        self.shown(("events",), history=longer, doors=(), pairs=(), rows=())
        self.shown(("doors", ("start",)), doors=(), pairs=(), rows=())

    def test_doors(self):
        for doors, expected in (
            ((), ("start",)), (self.DOORS[1:], ("start",)), ((((0,), 1),) + self.DOORS[1:], ("start",)),
            (self.DOORS[:1], ("step", 0, 0)), (self.DOORS[:2], ("step", 0, 1)),
            (without(self.DOORS, 1), ("step", 0, 0)),
            (self.DOORS[:1] + (((1,), 2),) + self.DOORS[2:], ("step", 0, 0)),
            (self.DOORS[:2] + (((2,), 2),), ("step", 0, 1)), (self.DOORS[:2] + (((2,), 1000),), ("step", 0, 1)),
        ):
            self.both(("doors", expected), doors=doors)
            self.both(("doors", expected), doors=doors, pairs=(), rows=())
        # A cost may be less than it could be.
        self.both(None, doors=(((0,), 0), ((1,), 0), ((2,), 1)))

    def test_doors_at_which_a_slip_lacks(self):
        # Nobody gets a slip at 2, which costs one event to come to: an error of two events.
        keeper = (POOR[0][:2], POOR[1])
        claim = ("shortest", NEWEST, keeper, 2)
        history = (COME[1], COME[0])
        rows = ((0, 0, (1,), (0,), 1), (0, 0, (1,), (1,), 2), (0, 0, (2,), (2,), 2))
        self.right(LAST, decide(LAST, claim))
        self.shown(None, history=history, rows=rows, claim=claim)
        low = (((0,), 0), ((1,), 1), ((2,), 0))
        self.shown(("doors", ("low", 2, 0)), history=history, doors=low, rows=rows, claim=claim)
        self.more(("doors", ("low", 2, 0)), many=2, rows=rows, keeper=keeper)
        self.more(("doors", ("low", 2, 0)), many=2, pairs=(), rows=(), keeper=keeper)
        self.more(None, many=1, rows=rows, keeper=keeper)
        # No slips at all, for two goers.
        use = ("any", (0, 1))
        for doors, expected in ((self.DOORS, ("doors", ("low", 0, 0))), (self.DOORS[1:], ("doors", ("start",)))):
            self.fault(LAST, ("broken", ("shortest", use, ((), ()), 1), ("more", doors, (), ())), expected)
        keeper = (tuple((0, (value,), 0) for value in range(3)) + ((1, (0,), 0),), ())
        self.fault(
            LAST, ("broken", ("shortest", use, keeper, 2), ("more", self.DOORS, (), ())), ("doors", ("low", 1, 1))
        )

    def test_pairs(self):
        for pairs, expected in (
            ((), ("start",)), (self.PAIRS[1:], ("start",)), ((((0,), (0,), 1),) + self.PAIRS[1:], ("start",)),
            (self.PAIRS[:1], ("step", 0, 0)), (self.PAIRS[:2], ("step", 0, 1)),
            (without(self.PAIRS, 1), ("step", 0, 0)),
            (self.PAIRS[:2] + (((2,), (2,), 2),), ("step", 0, 1)),
            (self.PAIRS[:1] + (((1,), (1,), 2),) + self.PAIRS[2:], ("step", 0, 0)),
            (self.PAIRS[:2] + (((2,), (1,), 0),) + self.PAIRS[2:], None),
        ):
            if expected is None:
                rows = self.ROWS[:1] + ((0, 0, (1,), (1,), 1),) + self.ROWS[2:]
                self.both(("rows", ("low", 1)), pairs=pairs, rows=rows)
            else:
                self.both(("pairs", expected), pairs=pairs)
                self.both(("pairs", expected), pairs=pairs, rows=())

    def test_who_goes_alone_costs_two(self):
        # By "any" and "oldest" one who has gone in between costs his coming and his going.
        for order in ("any", "oldest"):
            use = (order, (0,))
            slips, goings = keeper_of(ROUND, use)
            own = tuple((0, (value,), value) for value in range(8))
            goings = tuple((0, slip) + row[2:] for slip in range(8) for row in goings)
            row = (0, 3, (1,), (0,))
            at = goings.index(row)
            keeper = (own, without(goings, at))
            error = first_error(ROUND, use, keeper)
            self.assertEqual(len(error), 8)
            claim = ("shortest", use, keeper, 8)
            certificate = decide(ROUND, claim)
            self.right(ROUND, certificate)
            history, doors, pairs, rows = certificate[2]
            for index, pair in enumerate(pairs):
                if pair[2]:
                    dear = pairs[:index] + (pair[:2] + (pair[2] + 1,),) + pairs[index + 1:]
                    found = ("shown", claim, (history, doors, dear, rows))
                    first = min(
                        k for k, other in enumerate(pairs)
                        if (((other[0][0] + 1) % 8,), other[1]) == pair[:2] and other[2] + 2 == pair[2]
                        or order == "any" and pair[:2] == (((other[0][0] + 1) % 8,), ((other[1][0] + 1) % 8,))
                        and other[2] + 1 == pair[2]
                    )
                    self.fault(ROUND, found, ("pairs", ("step", first, 0)))

    def test_rows(self):
        for rows, expected in (
            ((), ("door", 0, 0)), (self.ROWS[1:], ("door", 0, 0)), (without(self.ROWS, 1), ("door", 1, 0)),
            (without(self.ROWS, 2), ("door", 2, 0)), (self.ROWS[:3], ("step", 0, 1)),
            (((0, 0, (1,), (0,), 2),) + self.ROWS[1:], ("door", 0, 0)),
            (self.ROWS[:1] + ((0, 0, (1,), (1,), 3),) + self.ROWS[2:], ("door", 1, 0)),
            (self.ROWS[:3] + ((0, 0, (2,), (2,), 3),), ("step", 0, 1)),
            (self.ROWS[:3] + ((0, 0, (2,), (2,), 1000),), ("step", 0, 1)),
            (self.ROWS[:1] + ((0, 0, (1,), (1,), 1),) + self.ROWS[2:], ("low", 1)),
            (self.ROWS[:1] + ((0, 0, (1,), (1,), 0), (0, 0, (1,), (2,), 0)) + self.ROWS[3:], ("step", 1, 1)),
            (self.ROWS[:1] + ((0, 0, (1,), (1,), 1), (0, 0, (1,), (2,), 0), (0, 0, (2,), (2,), 1)), ("low", 1)),
        ):
            self.both(("rows", expected), rows=rows)
        # Rows that are goings may cost nothing at all, and more rows than are come to may stand there.
        self.both(None, rows=((0, 0, (1,), (0,), 0),) + self.ROWS[1:3] + ((0, 0, (2,), (2,), 0),))
        self.both(("rows", ("step", 4, 1)), rows=self.ROWS + ((0, 5, (0,), (0,), 9),))
        self.both(None, rows=self.ROWS + ((0, 5, (0,), (0,), 9), (0, 5, (2,), (2,), 10)))
        self.both(("rows", ("low", 4)), rows=self.ROWS + ((0, 5, (0,), (0,), 1), (0, 5, (2,), (2,), 2)))

    def test_rows_are_asked_for_only_where_there_is_a_slip(self):
        keeper = (POOR[0][:1], POOR[1])
        claim = ("shortest", NEWEST, keeper, 2)
        history = (COME[0], COME[0])
        rows = ((0, 0, (1,), (0,), 1), (0, 0, (2,), (2,), 2))
        self.shown(None, history=history, rows=rows, claim=claim)
        self.shown(("rows", ("door", 0, 0)), history=history, rows=rows[1:], claim=claim)
        self.shown(("rows", ("step", 0, 1)), history=history, rows=rows[:1], claim=claim)

    def test_a_keeper_that_is_right(self):
        for many in (1, 2, 3, 100, 400):
            certificate = decide(LAST, ("shortest", NEWEST, KEEPER, many))
            self.assertEqual((certificate[0], certificate[2][0]), ("broken", "more"))
            self.right(LAST, certificate)
            self.fault(LAST, certificate[:2] + (("less", ERROR),), ("right",))

    def test_goers_in_their_order(self):
        use = ("newest", (0, 1))
        keeper = keeper_of(LAST, use)
        certificate = decide(LAST, ("shortest", use, keeper, 5))
        self.right(LAST, certificate)
        word, doors, pairs, rows = certificate[2]
        for at, row in enumerate(rows):
            index = {(1, 0): 0, (2, 0): 0}.get((row[2][0], row[3][0]), row[3][0])
            self.fault(
                LAST, certificate[:2] + ((word, doors, pairs, without(rows, at)),), ("rows", ("door", index, row[0]))
            )

    def test_forms(self):
        good = (self.DOORS, self.PAIRS, self.ROWS)
        for index, wrong in (
            (0, None), (0, list(self.DOORS)), (0, self.DOORS[::-1]), (0, self.DOORS + (((2,), 2),)), (0, (((0,), -1),)),
            (0, (((0,), 1001),)), (0, (((0,), True),)), (0, (((0,),),)), (0, (((0,), 0, 0),)), (0, (((3,), 0),)),
            (0, (((0,), None),)), (0, (((0,), "0"),)), (0, ((0, 0),)), (0, ((((0,), 0),),)),
            (1, None), (1, list(self.PAIRS)), (1, self.PAIRS[::-1]), (1, (((0,), (0,)),)), (1, (((0,), (0,), -1),)),
            (1, (((0,), (0,), 1001),)), (1, (((0,), (0,), False),)), (1, (((0,), (3,), 0),)),
            (1, self.PAIRS + (((2,), (2,), 5),)), (1, (((0,), (0,), 0, 0),)),
            (2, None), (2, list(self.ROWS)), (2, self.ROWS[::-1]), (2, self.ROWS + ((0, 0, (2,), (2,), 3),)),
            (2, ((1, 0, (0,), (0,), 0),)), (2, ((0, 8, (0,), (0,), 0),)), (2, ((0, -1, (0,), (0,), 0),)),
            (2, ((0, 0, (0,), (0,), 1001),)), (2, ((0, 0, (0,), (0,), -1),)), (2, ((0, 0, (0,), (0,)),)),
            (2, ((0, 0, (0,), (0,), 0, 0),)), (2, ((0, 0, (3,), (0,), 0),)), (2, ((False, 0, (0,), (0,), 0),)),
            (2, ((0, 0, (0,), (0,), True),)),
        ):
            parts = good[:index] + (wrong,) + good[index + 1:]
            self.fault(LAST, ("shown", self.claim, (ERROR,) + parts), ("form",))
            self.fault(LAST, ("broken", self.claim, ("more",) + parts), ("form",))
        self.fault(LAST, ("shown", self.claim, ("more",) + good), ("form",))
        self.fault(LAST, ("broken", self.claim, (ERROR,) + good), ("form",))
        for content in (
            (), good, (ERROR,) + good + ((),), (ERROR, good), ("less", ERROR), [ERROR, *good], ("more",) + good[:2],
            None,
            ("less",), ("less", ERROR, ()), ("More",) + good, ("least", ERROR), ERROR,
        ):
            self.fault(LAST, ("shown", self.claim, content), ("form",))
            if content != ("less", ERROR):
                self.fault(LAST, ("broken", self.claim, content), ("form",))

    def test_costs_of_1000(self):
        rows = self.ROWS + ((0, 5, (0,), (0,), 999), (0, 5, (2,), (2,), 1000))
        self.both(None, rows=rows)
        self.both(None, doors=self.DOORS, pairs=self.PAIRS, rows=rows)


class TestExchange(CheckerCase):
    RICH = (KEEPER[0], ())
    claim = ("exchange", NEWEST, RICH, POOR)
    DOORS = ((0,), (1,), (2,))
    ROWS = ((0, 0, 0), (0, 1, 0), (0, 2, 0))

    def shown(self, doors, rows, expected, claim=claim, house=LAST):
        self.fault(house, ("shown", claim, (doors, rows)), expected)

    def test_shown(self):
        self.shown(self.DOORS, self.ROWS, None)
        self.same(decide(LAST, self.claim), ("shown", self.claim, (self.DOORS, self.ROWS)))

    def test_start_and_step(self):
        self.shown((), (), ("start",))
        self.shown(self.DOORS[1:], self.ROWS, ("start",))
        self.shown(self.DOORS[:1], self.ROWS, ("step", 0, 0))
        self.shown(self.DOORS[:2], self.ROWS, ("step", 0, 1))
        self.shown(without(self.DOORS, 1), (), ("step", 0, 0))

    def test_lacks(self):
        for at in range(3):
            slips = without(KEEPER[0], at)
            for claim in (("exchange", NEWEST, (slips, ()), POOR), ("exchange", NEWEST, POOR, (slips, ()))):
                self.shown(self.DOORS, self.ROWS, ("lacks", at, 0), claim)
                self.shown(self.DOORS, (), ("lacks", at, 0), claim)
        use = ("any", (0, 1))
        one = tuple((0, (value,), 0) for value in range(3))
        other = tuple((1, (value,), 0) for value in range(3))
        self.shown(self.DOORS, (), ("lacks", 0, 1), ("exchange", use, (one + other, ()), (one, ())))
        self.shown(self.DOORS, (), ("lacks", 0, 0), ("exchange", use, (one + other, ()), (other, ())))
        self.shown(self.DOORS, (), ("lacks", 2, 1), ("exchange", use, (one + other[:2], ()), (one + other, ())))

    def test_row(self):
        for at in range(3):
            self.shown(self.DOORS, without(self.ROWS, at), ("row", at, 0))
            row = self.ROWS[at]
            other = (row[0], row[1], 1)
            self.shown(self.DOORS, self.ROWS[:at] + (other,) + self.ROWS[at + 1:], ("row", at, 0))
        use = ("any", (0, 1))
        slips = tuple((kind, (value,), kind) for kind in (0, 1) for value in range(3))
        claim = ("exchange", use, (slips, ()), (slips, ()))
        self.shown(self.DOORS, ((0, 0, 0), (1, 1, 1)), None, claim)
        self.shown(self.DOORS, ((0, 0, 0),), ("row", 0, 1), claim)
        self.shown(self.DOORS, ((1, 1, 1),), ("row", 0, 0), claim)

    def test_two(self):
        claim = ("exchange", NEWEST, POOR, self.RICH)
        rows = ((0, 0, 0), (0, 0, 1), (0, 0, 2))
        self.shown(self.DOORS, rows, ("two", 1), claim)
        self.shown(self.DOORS, rows[:1], ("row", 1, 0), claim)
        self.shown(self.DOORS, self.ROWS[:2] + ((0, 2, 0), (0, 2, 1)), ("two", 3))
        # Also among rows of kinds that are no goers, and of slips that nobody gets.
        self.shown(self.DOORS, self.ROWS + ((0, 7, 1), (1, 0, 5)), None)
        self.shown(self.DOORS, self.ROWS + ((1, 0, 5), (1, 0, 6)), ("two", 4))

    def test_more_doors_than_are_come_to(self):
        house = ((4,), (0,), ((("when", 0, 0, 1, ("add", 0, 1)),), ()))
        slips = tuple((0, (value,), value) for value in range(4))
        rows = tuple((0, value, value) for value in range(4))
        doors = tuple((value,) for value in range(4))
        claim = ("exchange", NEWEST, (slips, ()), (slips, ()))
        self.shown(doors, rows, None, claim, house)
        self.shown(doors[:3], rows[:3], None, claim, house)
        self.shown(doors[:3], rows, None, claim, house)
        self.shown(doors, rows[:3], ("row", 3, 0), claim, house)
        claim = ("exchange", NEWEST, (slips[:3], ()), (slips, ()))
        self.shown(doors, rows, ("lacks", 3, 0), claim, house)
        self.shown(doors[:3], rows, None, claim, house)

    def broken(self, content, expected, old, new, use=NEWEST, house=LAST):
        self.fault(house, ("broken", ("exchange", use, old, new), content), expected)

    def test_broken_by_one_that_lacks(self):
        lacking = (KEEPER[0][:2], ())
        for old, new in ((lacking, POOR), (POOR, lacking), (lacking, lacking)):
            self.broken(("lacks", 0, (1,)), None, old, new)
            self.broken(("lacks", 0, (0, 0, 1)), None, old, new)
            self.broken(("lacks", 0, (1,) * 64), None, old, new)
            self.broken(("lacks", 0, (1,) * 65), ("form",), old, new)
            self.broken(("lacks", 0, ()), ("lacks",), old, new)
            self.broken(("lacks", 0, (1, 0)), ("lacks",), old, new)
        self.broken(("lacks", 0, (1,)), ("lacks",), POOR, self.RICH)

    def test_broken_by_two(self):
        rich, poor = self.RICH, POOR
        self.broken(("two", 0, (), (0,)), None, poor, rich)
        self.broken(("two", 0, (1,), (0,)), None, poor, rich)
        self.broken(("two", 0, (1,) * 64, (0,) * 64), None, poor, rich)
        self.broken(("two", 0, (1,) * 65, (0,)), ("form",), poor, rich)
        self.broken(("two", 0, (1,), (0,) * 65), ("form",), poor, rich)
        self.broken(("two", 0, (), ()), ("new",), poor, rich)
        self.broken(("two", 0, (1,), (0, 1)), ("new",), poor, rich)
        self.broken(("two", 0, (), (0,)), ("new",), poor, poor)
        self.broken(("two", 0, (), (0,)), ("old",), rich, poor)
        self.broken(("two", 0, (), (0,)), ("old",), rich, rich)
        for lacking, comings in (((without(KEEPER[0], 0), ()), ((), (0,))), ((without(KEEPER[0], 1), ()), ((), (0,)))):
            self.broken(("two", 0) + comings, ("old",), lacking, rich)
            self.broken(("two", 0) + comings[::-1], ("old",), lacking, lacking)
            self.broken(("two", 0) + comings, ("new",), poor, lacking)
            self.broken(("two", 0) + comings[::-1], ("new",), poor, lacking)
        self.broken(("two", 0, (), (0,)), ("old",), ((), ()), ((), ()))
        self.broken(("two", 0, (), ()), ("old",), ((), ()), rich)
        self.broken(("two", 0, (), ()), ("new",), rich, ((), ()))

    def test_forms(self):
        for content in (
            (), (self.DOORS,), (self.DOORS, self.ROWS, ()), [self.DOORS, self.ROWS], (list(self.DOORS), self.ROWS),
            (self.DOORS, list(self.ROWS)), (self.DOORS[::-1], self.ROWS), (self.DOORS, self.ROWS[::-1]),
            (self.DOORS + self.DOORS[2:], self.ROWS), (self.DOORS, self.ROWS + self.ROWS[2:]), (((3,),), ()),
            ((0,), ()),
            (self.DOORS, ((2, 0, 0),)), (self.DOORS, ((-1, 0, 0),)), (self.DOORS, ((0, 8, 0),)),
            (self.DOORS, ((0, 0, 8),)), (self.DOORS, ((0, -1, 0),)), (self.DOORS, ((0, 0, True),)),
            (self.DOORS, ((0, 0),)), (self.DOORS, ((0, 0, 0, 0),)), ((((0,),),), ()), None, ("lacks", 0, ()),
        ):
            self.shown_content(content)
        for content in (
            (), ("lacks",), ("lacks", 0), ("two",), ("two", 0), ("lacks", 0, (), ()), ("two", 0, ()),
            ("two", 0, (), (), ()), ("lacks", 1, ()),
            ("two", 1, (), ()), ("lacks", True, ()), ("lacks", False, ()), ("lacks", 0, (2,)), ("lacks", 0, (-1,)),
            ("lacks", 0, [0]), ("lacks", 0, (True,)), ("two", 0, (), (2,)), ("two", 0, (2,), ()), ("two", 0, (), None),
            ("Lacks", 0, ()), ["lacks", 0, ()], (0, "lacks", ()), None, (self.DOORS, self.ROWS), ("lacks", 0, 0),
        ):
            self.broken(content, ("form",), POOR, self.RICH)

    def shown_content(self, content):
        self.fault(LAST, ("shown", self.claim, content), ("form",))


class TestHouses(CheckerCase):
    def test_keepers_of_all_uses_of_some_houses(self):
        for house in (TURN, GREATEST, FOUR):
            for order in ORDERS:
                for goers in all_sets(house)[:6]:
                    use = (order, goers)
                    for keeper in (((), ()), (tuple((kind, house[1], 0) for kind in goers), ())):
                        for claim in (
                            ("right", use, keeper), ("shortest", use, keeper, 1), ("shortest", use, keeper, 2),
                            ("exchange", use, keeper, keeper),
                        ):
                            certificate = decide(house, claim)
                            self.right(house, certificate)
                            self.fault(house, put(certificate, (0,), "Shown"), ("form",))


if __name__ == "__main__":
    unittest.main()
