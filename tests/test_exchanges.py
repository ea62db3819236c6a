import random
import unittest

from doorslips.exchanges import exchange_of
from doorslips.houses import contents
from doorslips.keepers import keeper_of
from doorslips.questions import doors
from tests.helper import EIGHT, HOUSES, LAST, ORDERS, SUM, Case, all_uses, some_houses
from tests.keeping import own_slips, uses_that_go

NEWEST = ("newest", (0,))
POOR = (((0, (0,), 0), (0, (1,), 0), (0, (2,), 0)), ((0, 0, (1,), (0,)), (0, 0, (2,), (2,))))
RICH = (((0, (0,), 0), (0, (1,), 1), (0, (2,), 2)), ())


def slips(*numbers, kind=0):
    """Return rows of a keeper that give the contents of one cell these slips, and none to those of None."""
    return tuple((kind, (value,), slip) for value, slip in enumerate(numbers) if slip is not None)


def exchange_told(house, use, old, new):
    """Return the exchange as point 13 tells it, or None."""
    rows = set()
    for kind in use[1]:
        for door in doors(house):
            given = [[row[2] for row in keeper[0] if row[:2] == (kind, door)] for keeper in (old, new)]
            if [] in given:
                return None
            rows.add((kind, given[0][0], given[1][0]))
    twice = len({row[:2] for row in rows}) < len(rows)
    return None if twice else tuple(sorted(rows))


class TestExchangeOf(Case):
    def are(self, house, use, old, new, expected):
        with self.subTest(use=use, old=old, new=new):
            self.same(self.answer(exchange_of, house, use, old, new), expected)

    def test_from_a_slip_for_each_door_to_fewer_and_the_other_way_round(self):
        self.are(LAST, NEWEST, RICH, POOR, ((0, 0, 0), (0, 1, 0), (0, 2, 0)))
        self.are(LAST, NEWEST, POOR, RICH, None)
        self.are(LAST, NEWEST, RICH, (slips(3, 7, 3), ()), ((0, 0, 3), (0, 1, 7), (0, 2, 3)))
        self.are(LAST, NEWEST, (slips(3, 7, 3), ()), RICH, None)
        self.are(LAST, NEWEST, (slips(3, 7, 3), ()), (slips(1, 0, 1), ()), ((0, 3, 1), (0, 7, 0)))
        self.are(LAST, NEWEST, (slips(3, 7, 3), ()), (slips(1, 1, 1), ()), ((0, 3, 1), (0, 7, 1)))
        self.are(LAST, NEWEST, (slips(3, 7, 3), ()), (slips(1, 1, 0), ()), None)

    def test_from_a_keeper_to_itself(self):
        self.are(LAST, NEWEST, POOR, POOR, ((0, 0, 0),))
        self.are(LAST, NEWEST, RICH, RICH, ((0, 0, 0), (0, 1, 1), (0, 2, 2)))
        for house in HOUSES:
            for use in uses_that_go(house):
                keeper = keeper_of(house, use)
                rows = sorted({(kind, slip, slip) for kind, _, slip in keeper[0]})
                self.are(house, use, keeper, keeper, tuple(rows))

    def test_no_slip_at_some_door(self):
        for lacking in (slips(None, 1, 2), slips(0, None, 2), slips(0, 1, None), ()):
            self.are(LAST, NEWEST, (lacking, ()), RICH, None)
            self.are(LAST, NEWEST, RICH, (lacking, ()), None)
            self.are(LAST, NEWEST, (lacking, ()), (lacking, ()), None)

    def test_no_slip_for_one_of_two_goers(self):
        both = slips(0, 1, 2) + slips(4, 4, 5, kind=1)
        use = ("any", (0, 1))
        self.are(LAST, use, (both, ()), (both, ()), ((0, 0, 0), (0, 1, 1), (0, 2, 2), (1, 4, 4), (1, 5, 5)))
        for one in (slips(0, 1, 2), slips(4, 4, 5, kind=1)):
            self.are(LAST, use, (one, ()), (both, ()), None)
            self.are(LAST, use, (both, ()), (one, ()), None)
        other = slips(1, 1, 1) + slips(0, 1, 2, kind=1)
        self.are(LAST, use, (both, ()), (other, ()), None)
        self.are(LAST, use, (other, ()), (both, ()), None)
        self.are(LAST, use, (both, ()), (slips(6, 6, 6) + slips(6, 6, 0, kind=1), ()), (
            (0, 0, 6), (0, 1, 6), (0, 2, 6), (1, 4, 6), (1, 5, 0),
        ))

    def test_contents_that_are_no_doors(self):
        house = ((4,), (0,), ((("when", 0, 0, 1, ("add", 0, 1)),),))
        self.assertEqual(doors(house), ((0,), (1,), (2,)))
        for last in range(8):
            self.are(house, ("any", (0,)), (slips(5, 5, 6, last), ()), (slips(1, 1, 2), ()), ((0, 5, 1), (0, 6, 2)))
            self.are(house, ("any", (0,)), (slips(5, 5, 6), ()), (slips(1, 1, 2, last), ()), ((0, 5, 1), (0, 6, 2)))
        self.are(house, ("any", (0,)), (slips(5, 5, None, 6), ()), (slips(1, 1, 2, 3), ()), None)

    def test_goings_do_not_matter(self):
        goings = tuple((0, slip, (value,), (1,)) for slip in range(8) for value in range(3))
        for old in ((), goings, goings[5:9]):
            for new in ((), goings, goings[:1]):
                self.are(LAST, NEWEST, (RICH[0], old), (POOR[0], new), ((0, 0, 0), (0, 1, 0), (0, 2, 0)))
                self.are(LAST, NEWEST, (POOR[0], old), (RICH[0], new), None)

    def test_eight_doors(self):
        for order in ORDERS:
            old, new = slips(*range(8), kind=1), slips(7, 6, 5, 4, 3, 2, 1, 0, kind=1)
            rows = tuple((1, slip, 7 - slip) for slip in range(8))
            self.are(EIGHT, (order, (1,)), (old, ()), (new, ()), rows)

    def test_as_told_for_drawn_keepers(self):
        draw = random.Random("exchanges")
        met = {True: 0, False: 0}
        for house in HOUSES + tuple(some_houses(20, "exchanges")):
            for use in all_uses(house):
                keepers = [own_slips(house, use)]
                for many in (1, 2, 8):
                    there = doors(house) if many == 2 else contents(house)
                    keepers.append((
                        tuple((kind, content, draw.randrange(many)) for kind in use[1] for content in there), ()
                    ))
                keepers.append((keepers[2][0][1:], ()))
                for old in keepers:
                    for new in keepers:
                        expected = exchange_told(house, use, old, new)
                        met[expected is None] += 1
                        self.are(house, use, old, new, expected)
        self.assertGreater(min(met.values()), 500)

    def test_by_name(self):
        found = self.answer(exchange_of, new=(slips(0, 0, 0), ()), old=RICH, use=("any", (0,)), house=SUM)
        self.same(found, ((0, 0, 0), (0, 1, 0), (0, 2, 0)))


if __name__ == "__main__":
    unittest.main()
