import unittest

from doorslips.checker import first_fault
from doorslips.claims import decide, require_claim
from doorslips.errors import InvalidClaim
from doorslips.keepers import keeper_of
from doorslips.slips import least_slips
from doorslips.uses import all_sets
from tests.claiming import Papers, claims_about, claims_of_use, drawn, nodes_of, truth
from tests.helper import (
    COUNTS, EIGHT, FOUR, GATE, GREATEST, HOUSES, HUGE, LAST, NOWHERE, ORDERS, ROUND, SUM, TURN, WINDOW, Case, all_uses,
    paths, put, some_houses,
)

USE = ("newest", (0, 1))
KEEPER = keeper_of(TURN, ("oldest", (0, 1)))
# One valid claim of each kind about TURN, with all of its parts.
CLAIMS = (
    ("least", USE, 1, 1),
    ("never", ("any", (1,)), 1),
    ("can", USE),
    ("sets", "any", ((0,), (0, 1))),
    ("best", "oldest", (5, 3), 2, 8),
    ("right", ("oldest", (0, 1)), KEEPER),
    ("shortest", ("oldest", (0, 1)), KEEPER, 7),
    ("exchange", ("oldest", (0, 1)), KEEPER, ((), ())),
)
WORDS = tuple(claim[0] for claim in CLAIMS)
SEVEN_DOORS = ((7,), (0,), ((("set", 0, 0),), (("add", 0, 1),), (("add", 0, 2),), ()))


class ClaimCase(Case):
    def right(self, house, claim):
        with self.subTest(kinds=len(house[2]), claim=repr(claim)[:90]):
            self.assertIsNone(self.answer(require_claim, house, claim))

    def wrong(self, house, value):
        with self.subTest(kinds=len(house[2]), value=repr(value)[:90]):
            for function in (require_claim, decide):
                self.assertEqual(vars(self.error(InvalidClaim, function, house, value)), {})


class TestRightClaims(ClaimCase):
    def test_one_of_each_kind(self):
        for claim in CLAIMS:
            self.right(TURN, claim)

    def test_each_use_and_each_goer(self):
        for house in HOUSES:
            for use in all_uses(house):
                keeper = ((), ())
                for claim in claims_of_use(house, use) + [("right", use, keeper), ("exchange", use, keeper, keeper)]:
                    self.right(house, claim)

    def test_numbers_at_their_bounds(self):
        for many in (1, 8):
            self.right(TURN, ("least", USE, 0, many))
        for worth in (0, 396):
            self.right(TURN, ("best", "any", (0, 99), 0, worth))
        for most in (0, 32):
            self.right(TURN, ("best", "any", (99, 0), most, 0))
        for many in (1, 400):
            self.right(TURN, ("shortest", USE, ((), ()), many))

    def test_sets(self):
        for house in HOUSES:
            for order in ORDERS:
                for sets in ((), all_sets(house), all_sets(house)[-1:], all_sets(house)[:1]):
                    self.right(house, ("sets", order, sets))

    def test_by_name(self):
        self.assertIsNone(self.answer(require_claim, claim=CLAIMS[0], house=TURN))


class TestWrongClaims(ClaimCase):
    def test_words(self):
        for claim in CLAIMS:
            first = claim[0]
            for word in (
                first.upper(), first + " ", first[:-1], "", "most", None, 0, True, (first,), [first], {first: 1},
            ):
                self.wrong(TURN, (word,) + claim[1:])
            for word in WORDS:
                if word != claim[0] and {word, claim[0]} != {"never", "right"}:
                    self.wrong(TURN, (word,) + claim[1:])

    def test_numbers_of_parts(self):
        for claim in CLAIMS:
            for value in (claim[:-1], claim + (claim[-1],), claim + (None,), claim + ((),), claim[:1], (), (claim,)):
                self.wrong(TURN, value)
            self.wrong(TURN, list(claim))
            self.wrong(TURN, (claim[0], claim[1:]))

    def test_uses_that_are_none(self):
        for claim in CLAIMS:
            if claim[0] not in ("sets", "best"):
                for use in (
                    ("any", ()), ("any", (1, 0)), ("any", (0, 2)), ("last", (0,)), ("any", [0]), ["any", (0,)],
                    ("any",), ("any", (True,)), "any", None, ("any", (-1,)),
                ):
                    self.wrong(TURN, (claim[0], use) + claim[2:])

    def test_orders_that_are_none(self):
        for order in ("", "last", "Any", None, 0, ("any",), ["any"], ("any", (0,))):
            self.wrong(TURN, ("sets", order, ()))
            self.wrong(TURN, ("best", order, (5, 3), 2, 8))

    def test_kinds_that_are_no_goers(self):
        for kind in (-1, 2, 3, HUGE, True, False, None, "0", (0,), [0], (), {}):
            self.wrong(TURN, ("least", USE, kind, 1))
            self.wrong(TURN, ("never", USE, kind))
        for kind in (0, True):
            self.wrong(TURN, ("least", ("any", (1,)), kind, 1))
            self.wrong(TURN, ("never", ("any", (1,)), kind))
        for kind in (1, False):
            self.wrong(TURN, ("least", ("any", (0,)), kind, 1))
            self.wrong(TURN, ("never", ("any", (0,)), kind))

    def test_numbers_beyond_their_bounds(self):
        for many in (0, 9, -1, HUGE, -HUGE, True, False, None, "1", (1,), [1]):
            self.wrong(TURN, ("least", USE, 0, many))
        for worth in (-1, 397, HUGE, True, False, None, "1", (1,), [1]):
            self.wrong(TURN, ("best", "any", (5, 3), 2, worth))
        for most in (-1, 33, HUGE, True, False, None, "1", (1,), [1]):
            self.wrong(TURN, ("best", "any", (5, 3), most, 8))
        for many in (0, 401, -1, HUGE, True, False, None, "1", (1,), [1]):
            self.wrong(TURN, ("shortest", USE, ((), ()), many))

    def test_sets(self):
        for sets in (
            ((0, 1), (0,)), ((0,), (0,)), ((0,), (1,), (0, 1)), ((),), ((), (0,)), ((0,), ()), ((1, 0),), ((0, 0),),
            ((2,),), ((-1,),), ((True,),), ((False,),), ([0],), [(0,)], (0,), ((0,), 1), ((0,), None), None, "", 0,
            ((0,), ("1",)), {(0,): 1}, (((0,),),),
        ):
            self.wrong(TURN, ("sets", "any", sets))

    def test_worths(self):
        for worths in (
            (), (5,), (5, 3, 1), (-1, 3), (5, 100), (True, 3), (5, False), (None, 3), ("5", 3), [5, 3], 53, None,
            ((5, 3),), {0: 5, 1: 3},
        ):
            self.wrong(TURN, ("best", "any", worths, 2, 8))

    def test_keepers_that_are_not_valid_for_the_use(self):
        for keeper in (
            (), ((),), ((), (), ()), ([], ()), ((), []), None, 0, "", [(), ()],
            (((0, (0, 0), 8),), ()), (((0, (0, 3), 0),), ()), (((2, (0, 0), 0),), ()), (((0, (0, 0), True),), ()),
            (KEEPER[0][::-1], KEEPER[1]), (KEEPER[0], KEEPER[1][::-1]), KEEPER[::-1],
        ):
            use = ("oldest", (0, 1))
            self.wrong(TURN, ("right", use, keeper))
            self.wrong(TURN, ("shortest", use, keeper, 1))
            self.wrong(TURN, ("exchange", use, keeper, KEEPER))
            self.wrong(TURN, ("exchange", use, KEEPER, keeper))
        # It is a keeper of two goers, and no keeper of one.
        for goers in ((0,), (1,)):
            self.wrong(TURN, ("right", ("oldest", goers), KEEPER))
            self.wrong(TURN, ("exchange", ("oldest", goers), ((), ()), KEEPER))

    def test_other_values_at_each_place(self):
        for claim in CLAIMS:
            for path in paths(claim):
                # A part of a part is wrong there, too: each of them would be, and some stand for all.
                for value in NOWHERE[:-2] if len(path) < 4 else NOWHERE[:4]:
                    self.wrong(TURN, put(claim, path, value))

    def test_values_of_any_other_kind(self):
        for house in (TURN, FOUR):
            for value in NOWHERE + WORDS + (0, TURN, USE, KEEPER, CLAIMS, {"can": USE}, {0: "can", 1: USE}):
                self.wrong(house, value)


class DecideCase(ClaimCase):
    def decides(self, house, claim):
        """Check the certificate of a claim; return its word and what kind of content it has."""
        found = self.answer(decide, house, claim)
        with self.subTest(house=house, claim=repr(claim)[:300]):
            self.assertIs(type(found), tuple)
            word, its_claim, content = found
            self.assertIs(its_claim, claim)
            self.assertEqual(word, "shown" if truth(house, claim) else "broken")
            self.assertIsNone(self.answer(first_fault, house, found))
            other = {"shown": "broken", "broken": "shown"}[word]
            self.assertEqual(first_fault(house, (other, claim, content)), ("form",))
            self.is_within_bounds(found)
        first = content[0] if content and isinstance(content[0], str) else None
        return claim[0], word, first

    def is_within_bounds(self, certificate):
        papers = Papers(certificate)
        for comers, _, later in papers.cases:
            self.assertLessEqual(len(comers), 64)
            self.assertLessEqual(len(later), 64)
        for comers in papers.comers:
            self.assertLessEqual(len(comers), 64)
        for lines, tree in papers.trees:
            self.assertLessEqual(lines, 36)
            nodes, deep = nodes_of(tree)
            self.assertLessEqual(nodes, 6000)
            self.assertLessEqual(deep, 9)
        for history in papers.histories:
            self.assertLessEqual(len(history), 400)
        for cost in papers.costs:
            self.assertIs(type(cost), int)
            self.assertTrue(0 <= cost <= 1000)


class TestDecide(DecideCase):
    def test_the_example(self):
        self.assertEqual(decide(TURN, ("can", ("any", (1,))))[0], "broken")
        self.assertEqual(decide(TURN, ("least", ("any", (0,)), 0, 2))[0], "shown")

    def test_invalid_claims(self):
        for value in NOWHERE + (CLAIMS[0][:3], ("most",)):
            self.assertEqual(vars(self.error(InvalidClaim, decide, TURN, value)), {})

    def test_claims_of_all_kinds(self):
        draw = drawn("claims")
        met = set()
        for house in HOUSES:
            uses = draw.sample(all_uses(house), min(5, len(all_uses(house))))
            for claim in claims_about(house, uses, draw):
                met.add(self.decides(house, claim))
        for house in (COUNTS, ROUND) + tuple(some_houses(16, "claims")):
            for claim in claims_about(house, draw.sample(all_uses(house), min(3, len(all_uses(house)))), draw):
                met.add(self.decides(house, claim))
        # Each kind of claim, shown and broken in each way that point 16 lists, has been met.
        self.assertEqual(met, {
            ("least", "shown", None), ("least", "broken", "less"), ("least", "broken", "more"),
            ("least", "broken", "never"), ("never", "shown", None), ("never", "broken", None),
            ("can", "shown", None), ("can", "broken", None), ("sets", "shown", None), ("sets", "broken", "lacks"),
            ("sets", "broken", "wrong"), ("best", "shown", None), ("best", "broken", "more"),
            ("best", "broken", "less"), ("right", "shown", None), ("right", "broken", None),
            ("shortest", "shown", None), ("shortest", "broken", "less"), ("shortest", "broken", "more"),
            ("exchange", "shown", None), ("exchange", "broken", "lacks"), ("exchange", "broken", "two"),
        })

    def test_each_number_of_slips(self):
        met = set()
        for house in (EIGHT, SEVEN_DOORS, TURN, GREATEST, WINDOW, GATE) + tuple(some_houses(24, "slips")):
            for use in all_uses(house):
                for kind in use[1]:
                    least = least_slips(house, use, kind)
                    if least not in met:
                        met.add(least)
                        for many in range(1, 9):
                            self.decides(house, ("least", use, kind, many))
        self.assertEqual(met, {None, 1, 2, 3, 4, 5, 6, 7, 8})

    def test_best_where_none_can_go(self):
        stuck = ((2,), (0,), ((("set", 0, 0),), (("set", 0, 1),)))
        for worth in (0, 1, 99, 198, 199, 396):
            for worths in ((0, 0), (99, 99), (0, 99)):
                self.assertEqual(self.decides(stuck, ("best", "any", worths, 32, worth)), ("best", "broken", "less"))
                self.decides(SUM, ("best", "any", worths, 0, worth))

    def test_long_errors(self):
        for order in ORDERS:
            use = (order, (0,))
            slips, goings = keeper_of(ROUND, use)
            own = tuple((0, (value,), value) for value in range(8))
            goings = tuple((0, slip) + row[2:] for slip in range(8) for row in goings)
            for at in (5, 22, 41, 63):
                keeper = (own, goings[:at] + goings[at + 1:])
                for many in (1, 7, 8, 12, 17, 23, 24, 100, 400):
                    self.decides(ROUND, ("shortest", use, keeper, many))
                self.decides(ROUND, ("right", use, keeper))

    def test_by_name(self):
        self.same(self.answer(decide, claim=CLAIMS[4], house=TURN), decide(TURN, CLAIMS[4]))


if __name__ == "__main__":
    unittest.main()
