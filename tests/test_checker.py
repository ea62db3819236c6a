"""The checker: the faults of parts, cases, lines and trees, and of claims about goers and sets."""

import unittest

from doorslips.checker import first_fault
from doorslips.claims import decide
from doorslips.houses import contents
from doorslips.pairs import pairs
from doorslips.uses import all_sets
from tests.claiming import nodes_of
from tests.helper import EIGHT, GATE, GREATEST, LAST, ORDERS, SUM, TURN, Case, cells, put

NEWEST = ("newest", (0,))
# The one part of the first kind of LAST by "newest" that has three slips: door 0 has slip 0, and so on.
PART = (
    cells((0, 0), (1, 1), (2, 2)),
    (((0,), 0), ((1,), 1), ((2,), 2)),
    (
        (0, (1,), (0,)), (0, (2,), (2,)), (1, (1,), (1,)), (1, (2,), (2,)), (2, (1,), (2,)), (2, (2,), (2,)),
    ),
)
AT_0, AT_1, AT_2 = ((), (), ()), ((0,), (), ()), ((1,), (), ())
LINES = ((AT_0, AT_1), (AT_0, AT_2), (AT_1, AT_2))
TREE = ("put", (0,), (
    ("put", (1,), (
        ("alike", 0),
        ("put", (2,), (("alike", 1), ("alike", 2))),
    )),
))
NEVER = (((), (), (1,)), ((0,), (), (1,)))


class CheckerCase(Case):
    def fault(self, house, certificate, expected):
        with self.subTest(certificate=repr(certificate)[:400]):
            self.same(self.answer(first_fault, house, certificate), expected)

    def right(self, house, certificate):
        self.fault(house, certificate, None)


class TestForm(CheckerCase):
    def test_no_triple(self):
        shown = decide(LAST, ("can", NEWEST))
        self.right(LAST, shown)
        for value in ((), shown[:2], shown + (None,), shown + shown, list(shown), (shown,), None, 0, "", "abc", {}, ()):
            self.fault(LAST, value, ("form",))

    def test_no_claim_whatever_the_word_and_the_content(self):
        for word in ("shown", "broken", "", None, [], True, ("shown",)):
            for claim in (
                None, (), "can", ("can",), ("can", NEWEST, 0), ["can", NEWEST], ("can", ("newest", (2,))),
                ("least", NEWEST, 0, 9), ("never", NEWEST, 1), ("sets", "any", ((0,), (0,))),
                ("best", "any", (1, 2), 3, 397), ("right", NEWEST, ((), None)), ("shortest", NEWEST, ((), ()), 0),
                ("exchange", NEWEST, ((), ()), ()), ("shown", NEWEST),
            ):
                for content in (None, (), PART, 0):
                    self.fault(LAST, (word, claim, content), ("claim",))

    def test_other_words(self):
        for word in (
            "", "Shown", "shown ", "show", "true", None, True, 0, ("shown",), ["shown"], {"shown": 1},
            ("shown", "broken"),
        ):
            for claim in (("can", NEWEST), ("least", NEWEST, 0, 3), ("right", NEWEST, ((), ()))):
                shown = decide(LAST, claim)
                self.fault(LAST, (word,) + shown[1:], ("form",))

    def test_a_claim_of_another_house(self):
        shown = decide(GREATEST, ("least", ("newest", (0, 1, 2)), 2, 3))
        self.right(GREATEST, shown)
        self.fault(LAST, shown, ("claim",))
        # A house with the same cells, in which the steps are others.
        other = (GREATEST[0], GREATEST[1], GREATEST[2][::-1])
        self.fault(other, shown, ("part", ("row", 0)))

    def test_by_name(self):
        self.assertIsNone(self.answer(first_fault, certificate=decide(LAST, ("can", NEWEST)), house=LAST))


class PartCase(CheckerCase):
    house, use, goer = LAST, NEWEST, 0

    def part(self, part, expected):
        """Check the fault of a part where nothing but the part is looked at."""
        found = None if expected is None else ("part", expected)
        self.fault(self.house, ("broken", ("never", self.use, self.goer), part), found)


class TestParts(PartCase):
    def test_right(self):
        self.part(PART, None)
        self.right(LAST, ("shown", ("least", NEWEST, 0, 3), (PART, LINES, TREE)))

    def test_start(self):
        for there in ((), PART[0][1:], cells((0, 1), (1, 1), (2, 2)), PART[0][2:]):
            self.part((there,) + PART[1:], ("start",))
        self.part(((), (), ()), ("start",))
        # Nothing else is looked at ahead of it.
        self.part((PART[0][2:], PART[1][1:], PART[2][3:]), ("start",))

    def test_pair(self):
        self.part((PART[0][:2],) + PART[1:], ("pair", 0, 1))
        self.part((PART[0][:1],) + PART[1:], ("pair", 0, 0))
        self.part((PART[0][:1] + PART[0][2:],) + PART[1:], ("pair", 0, 0))
        self.part((PART[0][:2] + cells((2, 1)),) + PART[1:], ("pair", 0, 1))
        # What must be there with a pair that is more than is come to.
        self.part((cells((0, 0), (1, 1), (2, 0), (2, 2)),) + PART[1:], ("row", 2))
        self.part((cells((0, 0), (0, 1), (1, 1)),) + PART[1:], ("pair", 0, 1))

    def test_pairs_by_each_order(self):
        use = ("oldest", (0,))
        told = pairs(LAST, use)
        self.assertEqual(told, cells((0, 0), (1, 0), (1, 2), (2, 2)))
        for at, place in ((1, (0, 0)), (2, (3, 0)), (3, (0, 1))):
            there = told[:at] + told[at + 1:]
            index, kind = place
            least = index if index < at else index - 1
            self.fault(LAST, ("broken", ("never", use, 0), (there, (), ())), ("part", ("pair", least, kind)))
        use = ("any", (0,))
        told = pairs(LAST, use)
        self.assertEqual(told, cells((0, 0), (1, 0), (1, 1), (1, 2), (2, 2)))
        for at, place in ((1, (0, 0)), (2, (0, 0)), (3, (3, 0)), (4, (0, 1))):
            there = told[:at] + told[at + 1:]
            self.fault(LAST, ("broken", ("never", use, 0), (there, (), ())), ("part", ("pair",) + place))

    def test_door(self):
        for at in range(3):
            doors = PART[1][:at] + PART[1][at + 1:]
            self.part((PART[0], doors, PART[2]), ("door", at))
        self.part((PART[0], (), ()), ("door", 0))
        self.part((cells((0, 0), (0, 2), (1, 1), (2, 2)), PART[1][:1] + PART[1][2:], ()), ("door", 2))

    def test_door_of_the_first_part(self):
        # By "oldest", the pair (1, 2) is there, too: it is its first part that must have a slip.
        claim = ("never", ("oldest", (0,)), 0)
        there = cells((0, 0), (1, 0), (1, 2), (2, 2))
        self.fault(LAST, ("broken", claim, (there, (((0,), 0), ((1,), 0)), ())), ("part", ("door", 3)))
        self.fault(LAST, ("broken", claim, (there, (((0,), 0), ((2,), 0)), ())), ("part", ("door", 1)))

    def test_none(self):
        # 0 is made by nobody: with pairs of 1 and 2 alone it is no first part.
        house = (LAST[0], (1,), LAST[2])
        there = cells((1, 1), (2, 2))
        rows = ((0, (1,), (1,)), (0, (2,), (2,)), (1, (1,), (2,)), (1, (2,), (2,)))
        claim = ("never", NEWEST, 0)
        self.right(house, ("broken", claim, (there, (((1,), 0), ((2,), 1)), rows)))
        doors = (((0,), 0), ((1,), 0), ((2,), 1))
        self.fault(house, ("broken", claim, (there, doors, rows)), ("part", ("none", 0)))
        self.fault(house, ("broken", claim, (there, doors[:2], rows)), ("part", ("door", 1)))
        self.fault(house, ("broken", claim, (there, (((0,), 7),) + doors[1:], ())), ("part", ("none", 0)))
        # The last one is none, where 2 is made by nobody.
        house = ((4,), (1,), LAST[2])
        doors = (((1,), 0), ((2,), 1), ((3,), 0))
        self.fault(house, ("broken", claim, (there, doors, rows)), ("part", ("none", 2)))

    def test_gap(self):
        for slips in ((0, 2, 3), (1, 2, 3), (0, 0, 2), (1, 1, 1), (0, 1, 7), (7, 7, 7), (5, 0, 1)):
            doors = tuple(((value,), slip) for value, slip in enumerate(slips))
            self.part((PART[0], doors, PART[2]), ("gap",))
            self.part((PART[0], doors, ()), ("gap",))

    def test_row(self):
        for at, index in ((0, 0), (2, 1), (5, 2)):
            self.part(PART[:2] + (PART[2][:at] + PART[2][at + 1:],), ("row", index) if at != 5 else ("later", 4, 1))
        self.part(PART[:2] + ((),), ("row", 0))
        self.part(PART[:2] + (PART[2][:3],), ("row", 2))
        self.part(PART[:2] + (((0, (1,), (1,)),) + PART[2][1:],), ("row", 0))
        # One slip for two doors: the rows of the second one must be there by that slip.
        doors = (((0,), 0), ((1,), 0), ((2,), 1))
        rows = ((0, (1,), (0,)), (0, (2,), (2,)), (1, (1,), (2,)), (1, (2,), (2,)))
        self.part((PART[0], doors, rows), ("row", 1))

    def test_later(self):
        self.part(PART[:2] + (PART[2][:1] + PART[2][2:],), ("later", 0, 1))
        self.part(PART[:2] + (PART[2][:3] + PART[2][4:],), ("later", 2, 1))
        self.part(PART[:2] + (PART[2][:5],), ("later", 4, 1))
        # Also behind a row that no case asks for.
        rows = PART[2] + ((5, (0,), (1,)),)
        self.part(PART[:2] + (rows,), ("later", 6, 1))
        self.part(PART[:2] + (rows + ((5, (2,), (2,)),),), None)

    def test_later_kinds_by_the_order(self):
        # By "oldest" and "any" goers come later, too, and ahead of them the first kind's row is asked for.
        for order in ("oldest", "any"):
            house, use = SUM, (order, (0,))
            part = decide(house, ("never", use, 0))[2]
            self.right(house, ("broken", ("never", use, 0), part))
            firsts = {(0, ((second[0] + 1) % 3,), second) for _, second in part[0]}
            self.assertEqual(len(part[2]), 3)
            self.assertEqual(set(part[2]), firsts)

    def test_two(self):
        doors = (((0,), 0), ((1,), 0), ((2,), 1))
        rows = (
            (0, (1,), (0,)), (0, (1,), (1,)), (0, (2,), (2,)), (1, (1,), (2,)), (1, (2,), (2,)),
        )
        self.part((PART[0], doors, rows), ("two", 1))
        self.part((PART[0], doors[:2] + (((2,), 0),), rows[:2] + ((0, (1,), (2,)), (0, (2,), (2,)))), ("two", 1))
        rows = PART[2][:4] + ((2, (1,), (1,)),) + PART[2][4:]
        self.part(PART[:2] + (rows,), ("two", 5))

    def test_more_than_is_come_to(self):
        # All pairs of contents, all rows that are asked for by them, and slips of their own for all contents.
        house = ((4,), (0,), ((("when", 0, 0, 1, ("add", 0, 1)),), ()))
        use = ("any", (0,))
        there = tuple((one, two) for one in contents(house) for two in contents(house))
        doors = tuple((content, 0) for content in contents(house))
        part = decide(house, ("never", ("newest", (0, 1)), 0))[2]
        self.assertEqual(len(part[0]), 3)
        rows = tuple(sorted(part[2] + ((0, (3,), (3,)),)))
        more = (cells((0, 0), (1, 1), (2, 2), (3, 3)), part[1] + (((3,), 0),), rows)
        self.right(house, ("broken", ("never", ("newest", (0, 1)), 0), more))
        self.fault(
            house, ("broken", ("never", ("newest", (0, 1)), 0), more[:2] + (part[2],)), ("part", ("row", 3))
        )
        self.fault(house, ("broken", ("never", use, 0), (there, doors, ())), ("part", ("row", 0)))

    def test_two_things_wrong(self):
        wrong = {
            ("start",): lambda part: (part[0][1:],) + part[1:],
            ("pair", 0, 1): lambda part: (tuple(pair for pair in part[0] if pair != ((2,), (2,))),) + part[1:],
            ("door", 1): lambda part: (part[0], tuple(row for row in part[1] if row[0] != (1,)), part[2]),
            ("gap",): lambda part: (part[0], tuple((door, slip + 1) for door, slip in part[1]), part[2]),
            ("row", 0): lambda part: part[:2] + (tuple(row for row in part[2] if row[1:] != ((1,), (0,))),),
            ("later", 0, 1): lambda part: part[:2] + (tuple(row for row in part[2] if row != (0, (2,), (2,))),),
        }
        names = list(wrong)
        for first, name in enumerate(names):
            self.part(wrong[name](PART), name)
            for other in names[first + 1:]:
                both = wrong[name](wrong[other](PART))
                found = first_fault(LAST, ("broken", ("never", NEWEST, 0), both))
                self.assertEqual(found[1][0], name[0], (name, other))


class TestFormsOfParts(PartCase):
    def form(self, part):
        self.fault(LAST, ("broken", ("never", NEWEST, 0), part), ("form",))
        self.fault(LAST, ("broken", ("least", NEWEST, 0, 8), ("less", part)), ("form",))
        self.fault(LAST, ("shown", ("least", NEWEST, 0, 3), (part, LINES, TREE)), ("form",))
        self.fault(LAST, ("shown", ("can", NEWEST), (part,)), ("form",))

    def test_parts(self):
        for part in ((), PART[:2], PART + ((),), list(PART), None, (PART,), (None,) + PART[1:], PART[:2] + (None,)):
            self.form(part)

    def test_pairs(self):
        for there in (
            PART[0][::-1], PART[0][:1] + PART[0], (((0,), (0,), (0,)),), (((0,),),), cells((0, 3)), cells((0, -1)),
            (((0,), (True,)),), (((0,), 0),), (((), (0,)),), (((0, 0), (0,)),), (0,), ((0, 0),), (None,),
        ):
            self.form((there,) + PART[1:])

    def test_doors(self):
        for there in (
            PART[1][::-1], PART[1] + PART[1][2:], PART[1] + (((2,), 3),), (((0,), 0), ((0,), 1)), (((0,), 8),),
            (((0,), -1),),
            (((0,), True),), (((3,), 0),), (((0,), 0, 0),), (((0,),),), ((0, 0),), (0,), (((0,), None),),
        ):
            self.form((PART[0], there, PART[2]))

    def test_rows(self):
        for there in (
            PART[2][::-1], PART[2] + PART[2][5:], ((8, (0,), (0,)),), ((-1, (0,), (0,)),), ((False, (0,), (0,)),),
            ((0, (3,), (0,)),), ((0, (0,), (3,)),), ((0, (0,)),), ((0, (0,), (0,), (0,)),), (((0,), (0,), 0),), (0,),
        ):
            self.form(PART[:2] + (there,))


class TestCases(CheckerCase):
    def test_forms(self):
        good = AT_0
        for case in (
            (), ((), ()), ((), (), (), ()), [(), (), ()], ([], (), ()), ((), [], ()), ((), (), []), None, 0,
            ((2,), (), ()),
            ((-1,), (), ()), ((True,), (), ()), ((), (), (2,)), ((), (), (False,)), ((0,), (1,), ()), ((0,), (-1,), ()),
            ((0, 0), (1, 0), ()), ((0, 0), (0, 0), ()), ((0, 0), (False,), ()), ((), (0,), ()), (0, (), ()),
            ((), 0, ()),
        ):
            use = ("any", (0,))
            for cases in ((good, case), (case, good)):
                self.never(LAST, use, 0, cases, ("form",))
                self.fault(LAST, ("broken", ("can", use), (0, cases)), ("form",))
                self.fault(LAST, ("broken", ("least", use, 0, 3), ("never", cases)), ("form",))
                self.fault(LAST, ("broken", ("least", use, 0, 3), ("more", (cases,), TREE)), ("form",))
        for cases in ((), (good,), (good, good, good), [good, good], None):
            self.never(LAST, ("any", (0,)), 0, cases, ("form",))

    def never(self, house, use, goer, cases, expected):
        self.fault(house, ("shown", ("never", use, goer), cases), expected)

    def test_right(self):
        self.never(GREATEST, ("newest", (2,)), 2, (((), (), ()), ((), (), (1,))), None)
        self.never(LAST, ("any", (0,)), 0, (((0,), (), ()), ((0,), (0,), ())), None)
        self.never(LAST, ("oldest", (0,)), 0, (((0,), (0,), ()), ((1, 0), (1,), ())), None)
        self.never(GREATEST, ("any", (1,)), 1, (((1,), (), ()), ((1,), (0,), ())), None)

    def test_the_example(self):
        self.never(TURN, ("any", (1,)), 1, (((), (), ()), ((), (), ())), ("wanted",))

    def test_gone(self):
        one = ((), (), ())
        for use, case in (
            (("any", (0,)), ((1,), (0,), ())), (("any", (0,)), ((0, 1), (0, 1), ())),
            (("any", (0,)), ((1, 0), (0,), ())),
            (("oldest", (0,)), ((0,), (), ())), (("oldest", (0,)), ((0, 0), (0,), ())),
            (("oldest", (0,)), ((0, 0), (1,), ())), (("oldest", (0,)), ((0, 1), (0, 1), ())),
            (("oldest", (0,)), ((1,), (0,), ())), (("oldest", (0, 1)), ((0, 1), (0,), ())),
            (("newest", (0,)), ((0,), (0,), ())), (("newest", (0,)), ((1,), (0,), ())),
            (("newest", (0, 1)), ((0, 1), (1,), ())),
        ):
            self.never(LAST, use, 0, (case, one), ("case", 0, "gone"))
            self.never(LAST, use, 0, (one, case), ("case", 1, "gone"))
            self.never(LAST, use, 0, (case, case), ("case", 0, "gone"))
        for use, case in (
            (("any", (0,)), ((0, 1, 0), (0, 2), ())), (("any", (0,)), ((0, 1, 0), (2,), ())),
            (("any", (0,)), ((0, 1, 0), (), ())), (("oldest", (0,)), ((0, 1, 0), (0, 2), ())),
            (("oldest", (0, 1)), ((0, 1, 0), (0, 1, 2), ())), (("newest", (0,)), ((0, 1, 0), (), ())),
        ):
            self.never(LAST, use, 0, (case, case), ("wanted",))

    def test_later(self):
        one = ((), (), ())
        for use, later in ((("newest", (0,)), (0,)), (("newest", (0,)), (1, 1, 0)), (("newest", (0, 1)), (1,))):
            self.never(LAST, use, 0, (((), (), later), one), ("case", 0, "later"))
            self.never(LAST, use, 0, (one, ((1,), (), later)), ("case", 1, "later"))
            # Who is gone is looked at ahead of who came later, and the first case ahead of the second one.
            self.never(LAST, use, 0, (((0,), (0,), later), one), ("case", 0, "gone"))
            self.never(LAST, use, 0, (((), (), later), ((0,), (0,), ())), ("case", 0, "later"))
        for order in ("any", "oldest"):
            case = ((), (), (0, 1, 0))
            self.never(LAST, (order, (0,)), 0, (case, case), ("wanted",))

    def test_door_present_wanted(self):
        use = ("any", (0,))
        self.never(LAST, use, 0, (AT_0, AT_1), ("door",))
        self.never(LAST, use, 0, (AT_0, ((), (), (1,))), ("present",))
        self.never(LAST, use, 0, (AT_0, AT_0), ("wanted",))
        self.never(LAST, use, 0, (AT_0, ((0,), (), (1,))), ("door",))
        self.never(LAST, use, 0, (((), (), (1,)), ((), (), (0, 1))), ("wanted",))
        # Doors are what all the comers make of begin, also those who are gone.
        self.never(LAST, use, 0, (((0,), (0,), ()), ((0,), (), ())), None)
        self.never(LAST, use, 0, (((0,), (0,), ()), ((), (), ())), ("door",))

    def test_64_comers_and_later_ones(self):
        use = ("any", (0,))
        for case in (((0,) * 64, (), ()), ((), (), (1,) * 64), ((0,) * 64, tuple(range(64)), (1,) * 64)):
            self.never(LAST, use, 0, (case, case), ("wanted",))
        for case in (((0,) * 65, (), ()), ((), (), (1,) * 65), ((0,) * 64, tuple(range(65)), ())):
            self.never(LAST, use, 0, (case, AT_0), ("form",))
            self.never(LAST, use, 0, (AT_0, case), ("form",))

    def test_lines(self):
        claim = ("least", NEWEST, 0, 2)
        more = ("broken", claim, ("more", LINES, TREE))
        self.right(LAST, more)
        for index in range(3):
            for line, expected in (
                ((AT_0, ((), (), (0,))), ("case", 1, "later")), ((((0,), (0,), ()), AT_0), ("case", 0, "gone")),
                ((AT_0, ((), (), (1,))), ("present",)), ((AT_2, AT_2), ("wanted",)),
            ):
                lines = LINES[:index] + (line,) + LINES[index + 1:]
                self.fault(LAST, ("broken", claim, ("more", lines, TREE)), ("line", index, expected))
                # Lines are looked at ahead of their tree, whether it needs them or not.
                self.fault(LAST, ("broken", claim, ("more", lines, ("put", (0,), ()))), ("line", index, expected))
                self.fault(LAST, ("broken", claim, ("more", LINES + (line,), TREE)), ("line", 3, expected))

    def test_36_lines(self):
        claim = ("least", NEWEST, 0, 2)
        self.right(LAST, ("broken", claim, ("more", LINES * 12, TREE)))
        self.fault(LAST, ("broken", claim, ("more", LINES * 12 + LINES[:1], TREE)), ("form",))

    def test_a_line_may_join_a_door_with_itself(self):
        use = ("any", (0,))
        line = (((0,), (), ()), ((0,), (0,), ()))
        tree = ("put", (1,), (("alike", 0),))
        for many in range(1, 8):
            self.right(LAST, ("broken", ("least", use, 0, many), ("more", (line,), tree)))


class TestTrees(CheckerCase):
    def tree(self, many, tree, path, lines=LINES):
        """Check the path to the first wrong node of a tree against so many classes."""
        certificate = ("broken", ("least", NEWEST, 0, many), ("more", lines, tree))
        self.fault(LAST, certificate, None if path is None else ("tree", path))

    def test_right(self):
        self.tree(2, TREE, None)
        self.tree(1, ("put", (0,), (("put", (1,), (("alike", 0),)),)), None)
        self.tree(1, ("put", (2,), (("put", (1,), (("alike", 2),)),)), None)
        # A content more is put, which no line needs.
        deeper = ("put", (0,), (("put", (2,), (
            ("alike", 1), ("put", (1,), (("alike", 0), ("alike", 2))),
        )),))
        self.tree(2, deeper, None)

    def test_against_no_classes(self):
        for number in range(1, 9):
            claim = ("least", ("newest", (0, 1, 2)), 0, number)
            certificate = decide(GREATEST, claim)
            self.right(GREATEST, certificate)
        claim = ("least", ("newest", (0, 1, 2)), 0, 1)
        part = decide(GREATEST, claim)[2][0]
        for content in contents(GREATEST):
            self.right(GREATEST, ("shown", claim, (part, (), ("put", content, ()))))
            child = ("put", content, ())
            self.fault(GREATEST, ("shown", claim, (part, (), ("put", content, (child,)))), ("tree", ()))

    def test_alike(self):
        self.tree(2, ("alike", 0), ())
        self.tree(2, ("put", (0,), (("alike", 0),)), (0,))
        self.tree(2, ("put", (0,), (("put", (2,), (("alike", 0), ("alike", 0))),)), (0, 0))
        self.tree(2, ("put", (0,), (("put", (1,), (("alike", 1), ("alike", 0))),)), (0, 0))
        self.tree(2, ("put", (0,), (("put", (1,), (("alike", 0), ("alike", 0))),)), (0, 1))
        self.tree(2, put(TREE, (2, 0, 2, 1, 2, 0), ("alike", 2)), (0, 1, 0))
        self.tree(2, put(TREE, (2, 0, 2, 1, 2, 1), ("alike", 1)), (0, 1, 1))

    def test_put_already(self):
        self.tree(2, ("put", (0,), (("put", (0,), (("alike", 0), ("alike", 0))),)), (0,))
        self.tree(2, put(TREE, (2, 0, 2, 1), ("put", (0,), (("alike", 1), ("alike", 2)))), (0, 1))
        self.tree(2, put(TREE, (2, 0, 2, 1), ("put", (1,), (("alike", 1), ("alike", 2)))), (0, 1))

    def test_numbers_of_children(self):
        for children in ((), TREE[2] * 2, TREE[2] * 3):
            self.tree(2, ("put", (0,), children), ())
        inner = TREE[2][0]
        for children in ((), inner[2][:1], inner[2] + (("alike", 0),)):
            self.tree(2, ("put", (0,), (("put", (1,), children),)), (0,))
        # Against one class, there is no new one for the second content; against three, there is for the third one.
        self.tree(1, TREE, (0,))
        self.tree(3, TREE, (0, 1))
        self.tree(7, TREE, (0, 1))
        self.tree(2, put(TREE, (2, 0, 2, 1, 2), (("alike", 1), ("alike", 2), ("alike", 2))), (0, 1))

    def test_children_are_in_the_order_of_the_classes(self):
        turned = put(TREE, (2, 0, 2, 1, 2), (("alike", 2), ("alike", 1)))
        self.tree(2, turned, (0, 1, 0))
        turned = put(TREE, (2, 0, 2), TREE[2][0][2][::-1])
        # Its first child is now the one with two in a class, in which the ends of the first line are.
        self.tree(2, turned, (0, 0, 1))

    def test_a_node_ahead_of_its_children_these_from_left_to_right(self):
        wrong = ("alike", 2)
        self.tree(2, ("put", (0,), (("put", (0,), (wrong, wrong)), wrong)), ())
        self.tree(2, ("put", (0,), (("put", (0,), (wrong, wrong)),)), (0,))
        self.tree(2, ("put", (0,), (("put", (1,), (wrong, wrong)),)), (0, 0))
        self.tree(2, put(put(TREE, (2, 0, 2, 0), wrong), (2, 0, 2, 1), wrong), (0, 0))
        deep = put(TREE, (2, 0, 2, 0), ("put", (2,), (("alike", 0), wrong)))
        self.tree(2, put(deep, (2, 0, 2, 1, 2, 1), ("alike", 0)), (0, 0, 1))

    def test_6000_nodes(self):
        child = ("alike", 0)
        for many, expected in ((5999, ("tree", ())), (6000, ("form",)), (7000, ("form",)), (100000, ("form",))):
            self.fault(LAST, (
                "broken", ("least", NEWEST, 0, 2), ("more", LINES, ("put", (0,), (child,) * many))
            ), expected)
        # Each of 20 nodes has as many children as make 6000 nodes together, or one more.
        for more, expected in ((0, ("tree", ())), (1, ("form",))):
            rows = tuple(("put", (1,), (child,) * (299 if at else 298 + more)) for at in range(20))
            tree = ("put", (0,), rows)
            self.assertEqual(nodes_of(tree)[0], 6000 + more)
            self.fault(LAST, ("broken", ("least", NEWEST, 0, 2), ("more", LINES, tree)), expected)

    def test_one_thing_that_stands_in_it_again_and_again(self):
        tree = ("alike", 0)
        for _ in range(8):
            tree = ("put", (0,), (tree,) * 400)
        # Written out, it would be too long: it is not looked at whether it was modified.
        self.same(first_fault(LAST, ("broken", ("least", NEWEST, 0, 2), ("more", LINES, tree))), ("form",))

    def test_9_nodes_on_a_way(self):
        def way(many):
            tree = ("alike", 0)
            for _ in range(many - 1):
                tree = ("put", (0,), (tree,))
            return tree

        self.tree(1, way(9), (0,))
        for many in (10, 11, 40):
            self.fault(LAST, ("broken", ("least", NEWEST, 0, 1), ("more", LINES, way(many))), ("form",))
        # Eight are put, and the ends of a line are alike.
        shown = decide(EIGHT, ("least", NEWEST, 0, 8))
        self.assertEqual(shown[0], "shown")
        self.assertEqual(nodes_of(shown[2][2])[1], 9)
        self.right(EIGHT, shown)

    def test_contents_that_nobody_comes_to_may_be_put(self):
        house = ((4,), (0,), LAST[2])
        tree = ("put", (3,), (
            ("put", (0,), (
                ("put", (1,), (("alike", 0),)),
            )),
        ))
        self.right(house, ("broken", ("least", NEWEST, 0, 1), ("more", LINES, tree)))


class TestLeast(CheckerCase):
    def test_shown(self):
        claim = ("least", NEWEST, 0, 3)
        self.fault(LAST, ("shown", claim, ((PART[0][1:],) + PART[1:], LINES, TREE)), ("part", ("start",)))
        self.fault(LAST, ("shown", claim, (PART[:2] + (PART[2][:5],), LINES, TREE)), ("part", ("later", 4, 1)))
        for many in (1, 2, 4, 8):
            self.fault(LAST, ("shown", ("least", NEWEST, 0, many), (PART, LINES, TREE)), ("slips",))
        wrong = ((AT_0, AT_0),) + LINES[1:]
        self.fault(LAST, ("shown", claim, (PART, wrong, TREE)), ("line", 0, ("wanted",)))
        self.fault(LAST, ("shown", claim, (PART, LINES, ("alike", 0))), ("tree", ()))
        self.fault(LAST, ("shown", claim, ((PART[0][1:],) + PART[1:], wrong, ("alike", 0))), ("part", ("start",)))
        self.fault(LAST, ("shown", ("least", NEWEST, 0, 2), (PART, wrong, ("alike", 0))), ("slips",))
        self.fault(LAST, ("shown", claim, (PART, wrong, ("alike", 0))), ("line", 0, ("wanted",)))

    def test_less(self):
        for many in range(4, 9):
            self.right(LAST, ("broken", ("least", NEWEST, 0, many), ("less", PART)))
        for many in (1, 2, 3):
            self.fault(LAST, ("broken", ("least", NEWEST, 0, many), ("less", PART)), ("slips",))
        wrong = PART[:2] + (PART[2][1:],)
        self.fault(LAST, ("broken", ("least", NEWEST, 0, 4), ("less", wrong)), ("part", ("row", 0)))
        self.fault(LAST, ("broken", ("least", NEWEST, 0, 2), ("less", wrong)), ("part", ("row", 0)))

    def test_more(self):
        for many in (1, 2):
            self.right(LAST, decide(LAST, ("least", NEWEST, 0, many)))
        self.fault(LAST, ("broken", ("least", NEWEST, 0, 3), ("more", LINES, TREE)), ("tree", (0, 1)))
        # There is no tree against eight classes.
        more = decide(EIGHT, ("least", NEWEST, 0, 7))
        self.assertEqual(more[2][0], "more")
        self.right(EIGHT, more)
        self.fault(EIGHT, ("broken", ("least", NEWEST, 0, 8), more[2]), ("form",))

    def test_never(self):
        claim = ("least", ("any", (0,)), 0, 3)
        cases = (((0,), (), ()), ((0,), (0,), ()))
        self.right(LAST, ("broken", claim, ("never", cases)))
        self.fault(LAST, ("broken", claim, ("never", cases[:1] * 2)), ("wanted",))
        self.fault(LAST, ("broken", claim, ("never", (cases[0], AT_0))), ("door",))
        self.fault(LAST, ("broken", claim, ("never", (cases[0], ((1,), (0,), ())))), ("case", 1, "gone"))

    def test_never_and_its_contrary(self):
        cases = (((0,), (), ()), ((0,), (0,), ()))
        self.right(LAST, ("shown", ("never", ("any", (0,)), 0), cases))
        self.fault(LAST, ("broken", ("never", ("any", (0,)), 0), cases), ("form",))
        self.fault(LAST, ("shown", ("never", NEWEST, 0), PART), ("form",))
        self.fault(LAST, ("shown", ("never", NEWEST, 0), cases), ("case", 1, "gone"))
        self.fault(LAST, ("broken", ("never", NEWEST, 0), PART[:1] + (PART[1][:2],) + PART[2:]), ("part", ("door", 2)))


class TestCan(CheckerCase):
    use = ("newest", (0, 1, 2))

    def test_shown(self):
        certificate = decide(GREATEST, ("can", self.use))
        self.right(GREATEST, certificate)
        parts = certificate[2]
        for index in range(3):
            wrong = parts[:index] + ((parts[index][0][1:],) + parts[index][1:],) + parts[index + 1:]
            self.fault(GREATEST, certificate[:2] + (wrong,), ("part", index, ("start",)))
            last = (parts[index][0], parts[index][1][:2], parts[index][2])
            wrong_there = parts[:index] + (last,) + parts[index + 1:]
            self.fault(GREATEST, certificate[:2] + (wrong_there,), ("part", index, ("door", 2)))
        self.fault(GREATEST, certificate[:2] + ((wrong[2],) * 3,), ("part", 0, ("start",)))
        # The parts are those of the goers in their order.
        self.fault(GREATEST, certificate[:2] + ((parts[1], parts[0], parts[2]),), ("part", 0, ("row", 0)))
        for many in (parts[:2], parts + parts[:1], ()):
            self.fault(GREATEST, certificate[:2] + (many,), ("form",))

    def test_broken(self):
        claim = ("can", ("any", (0, 1)))
        cases = (((1,), (), ()), ((1,), (0,), ()))
        self.right(GREATEST, ("broken", claim, (1, cases)))
        self.fault(GREATEST, ("broken", claim, (0, cases)), ("present",))
        for content in (
            (2, cases), (True, cases), (1,), (1, cases, ()), (1, cases[:1]), (cases, 1), (None, cases), cases,
        ):
            self.fault(GREATEST, ("broken", claim, content), ("form",))
        self.fault(GREATEST, ("broken", claim, (1, (cases[0], ((0,), (), ())))), ("door",))
        self.fault(GREATEST, ("broken", ("can", ("newest", (0, 1))), (1, cases)), ("case", 1, "gone"))


class TestSets(CheckerCase):
    def test_shown(self):
        claim = ("sets", "oldest", ((0,), (0, 1)))
        certificate = decide(TURN, claim)
        self.right(TURN, certificate)
        answers = certificate[2]
        self.assertEqual([answer[0] for answer in answers], ["can", "can", "never"])
        broken = ("can", ((answers[0][1][0][0][1:],) + answers[0][1][0][1:],))
        self.fault(TURN, ("shown", claim, (broken,) + answers[1:]), ("set", 0, ("part", 0, ("start",))))
        parts = answers[1][1]
        wrong = ("can", (parts[0], parts[1][:2] + ((),)))
        self.fault(TURN, ("shown", claim, answers[:1] + (wrong,) + answers[2:]), ("set", 1, ("part", 1, ("row", 0))))
        never = ("never", 1, (answers[2][2][0],) * 2)
        self.fault(TURN, ("shown", claim, answers[:2] + (never,)), ("set", 2, ("wanted",)))
        self.fault(TURN, ("shown", claim, (broken, wrong, never)), ("set", 0, ("part", 0, ("start",))))
        # The answers are looked at ahead of the sets of the claim.
        for sets in ((), ((0,),), ((0, 1),), ((0,), (1,)), all_sets(TURN)):
            self.fault(TURN, ("shown", ("sets", "oldest", sets), answers), ("sets",))
            self.fault(TURN, ("shown", ("sets", "oldest", sets), answers[:2] + (never,)), ("set", 2, ("wanted",)))
        # By another order, the same answers are none.
        for order in ("any", "newest"):
            self.assertEqual(first_fault(TURN, ("shown", ("sets", order, claim[2]), answers))[0], "set")

    def test_answers_for_each_set(self):
        claim = ("sets", "oldest", ((0,), (0, 1)))
        answers = decide(TURN, claim)[2]
        for wrong in (answers[:2], answers + answers[2:], (), answers[::-1], (answers[1], answers[0], answers[2])):
            self.fault(TURN, ("shown", claim, wrong), ("form",))
        for answer in (
            ("can", ()), ("can", answers[0][1] * 2), ("never", 1, answers[2][2]), ("never", 0), ("bounds", (None,)),
            ("can",), ("Can",) + answers[0][1:], answers[0] + ((),), ("never",) + answers[0][1:],
        ):
            self.fault(TURN, ("shown", claim, (answer,) + answers[1:]), ("form",))

    def test_lacks(self):
        certificate = decide(TURN, ("sets", "oldest", ((0,),)))
        self.right(TURN, certificate)
        _, _, (word, goers, parts) = certificate
        self.assertEqual((word, goers), ("lacks", (0, 1)))
        for sets in (((0,), (0, 1)), ((0, 1),), all_sets(TURN)):
            self.fault(TURN, ("broken", ("sets", "oldest", sets), (word, goers, parts)), ("among",))
            self.fault(TURN, ("broken", ("sets", "oldest", sets), (word, goers, parts[::-1])), ("among",))
        wrong = (parts[0], (parts[1][0][1:],) + parts[1][1:])
        self.fault(TURN, certificate[:2] + ((word, goers, wrong),), ("part", 1, ("start",)))
        for content in ((word, (0,), parts), (word, (0, 1), parts[:1]), (word, (1, 0), parts), (word, (), ())):
            self.fault(TURN, certificate[:2] + (content,), ("form",))

    def test_wrong(self):
        certificate = decide(TURN, ("sets", "oldest", all_sets(TURN)))
        self.right(TURN, certificate)
        _, _, (word, goers, kind, cases) = certificate
        self.assertEqual((word, goers, kind), ("wrong", (1,), 1))
        for sets in ((), ((0,), (0, 1))):
            self.fault(TURN, ("broken", ("sets", "oldest", sets), (word, goers, kind, cases)), ("among",))
            self.fault(TURN, ("broken", ("sets", "oldest", sets), (word, goers, kind, cases[:1] * 2)), ("among",))
        self.fault(TURN, certificate[:2] + ((word, goers, kind, cases[:1] * 2),), ("wanted",))
        for content in (
            (word, goers, 0, cases), (word, (0,), kind, cases), (word, goers, kind), (word, (0, 2), 2, cases),
            (word, goers, kind, cases, ()), (word, goers, True, cases), (word, goers, cases, kind),
        ):
            self.fault(TURN, certificate[:2] + (content,), ("form",))


class TestBest(CheckerCase):
    # By "newest", the kinds of GREATEST need 1, 2 and 3 slips.
    claim = ("best", "newest", (1, 1, 1), 3, 2)

    def test_shown(self):
        certificate = decide(GREATEST, self.claim)
        self.right(GREATEST, certificate)
        goers, parts, answers = certificate[2]
        self.assertEqual((goers, len(answers), answers[0][0]), ((0, 1), 1, "bounds"))
        bounds = answers[0][1]
        self.assertEqual([bound if bound is None else bound[0] for bound in bounds], [None, 1, 2])

        def fault(content, expected):
            self.fault(GREATEST, ("shown", self.claim, content), expected)

        less = decide(GREATEST, ("can", ("newest", (0,))))[2]
        fault(((0,), less, answers), ("worth",))
        fault(((0, 1, 2), parts + parts[:1], answers), ("worth",))
        wrong = (parts[0], (parts[1][0][1:],) + parts[1][1:])
        fault((goers, wrong, answers), ("part", 1, ("start",)))
        fault(((0, 2), parts, answers), ("part", 1, ("row", 0)))
        fault((goers, parts, (("bounds", (None,) * 3),)), ("set", 0, ("sum",)))
        fault((goers, parts, (("bounds", (None, bounds[1], None)),)), None)
        fault((goers, parts, (("bounds", (None, None, bounds[2])),)), None)
        lines = bounds[2][1]
        broken = (lines[0][0],) * 2
        fault((goers, parts, (("bounds", bounds[:2] + ((2, (broken,) + lines[1:], bounds[2][2]),)),)),
              ("set", 0, ("bound", 2, ("line", 0, ("wanted",)))))
        fault((goers, parts, (("bounds", bounds[:2] + ((3,) + bounds[2][1:],)),)),
              ("set", 0, ("bound", 2, ("tree", (0, 1)))))
        # Who makes no difference leaves what was there: the two cases of a line have other presents then.
        fault((goers, parts, (("bounds", (bounds[2], bounds[1], bounds[2])),)),
              ("set", 0, ("bound", 0, ("line", 0, ("present",)))))
        # A bound is looked at ahead of the sum of all.
        fault((goers, parts, (("bounds", (None, (1, bounds[1][1], ("alike", 0)), None)),)),
              ("set", 0, ("bound", 1, ("tree", ()))))

    def test_slips(self):
        parts = decide(EIGHT, ("can", NEWEST))[2]
        for most, expected in ((8, None), (7, ("slips",)), (0, ("slips",))):
            claim = ("best", "newest", (1, 1), most, 1)
            answers = decide(EIGHT, ("best", "newest", (1, 1), most, 2))[2][1]
            self.fault(EIGHT, ("shown", claim, ((0,), parts, answers)), expected)
            wrong = (("bounds", (None, None)),)
            self.fault(EIGHT, ("shown", claim, ((0,), parts, wrong)), expected or ("set", 0, ("sum",)))

    def test_answers_and_bounds_of_other_forms(self):
        goers, parts, answers = decide(GREATEST, self.claim)[2]
        bounds = answers[0][1]
        for many in ((), answers * 2):
            self.fault(GREATEST, ("shown", self.claim, (goers, parts, many)), ("form",))
        for bound in (
            (), (1,), (0,) + bounds[2][1:], (8,) + bounds[2][1:], (True,) + bounds[2][1:], bounds[2] + (None,), 0,
            False,
            list(bounds[2]),
        ):
            self.fault(GREATEST, (
                "shown", self.claim, (goers, parts, (("bounds", bounds[:2] + (bound,)),))
            ), ("form",))
        for answer in (
            ("bounds",), ("bounds", bounds[:2]), ("bounds", bounds + (None,)), ("bounds", list(bounds)),
            ("Bounds", bounds), ("can", parts), ("never", 3, (AT_0, AT_0)), ("never", 0, AT_0), None, bounds,
        ):
            self.fault(GREATEST, ("shown", self.claim, (goers, parts, (answer,))), ("form",))
        for content in ((goers, parts), ((), (), answers), (goers, parts[:1], answers), ((1, 0), parts, answers), None):
            self.fault(GREATEST, ("shown", self.claim, content), ("form",))

    def test_never_among_the_answers(self):
        claim = ("best", "any", (5, 3), 8, 5)
        certificate = decide(TURN, claim)
        self.right(TURN, certificate)
        goers, parts, answers = certificate[2]
        self.assertEqual((goers, [answer[:2] for answer in answers]), ((0,), [("never", 0)]))
        cases = answers[0][2]
        wrong = ("never", 0, cases[:1] * 2)
        self.fault(TURN, ("shown", claim, (goers, parts, (wrong,))), ("set", 0, ("wanted",)))
        self.fault(TURN, ("shown", claim, (goers, parts, (("never", 2, cases),))), ("form",))

    def test_more(self):
        certificate = decide(GREATEST, self.claim[:4] + (1,))
        self.right(GREATEST, certificate)
        word, goers, parts = certificate[2]
        self.assertEqual((word, goers), ("more", (0, 1)))
        for worth in (2, 3, 396):
            self.fault(GREATEST, ("broken", self.claim[:4] + (worth,), (word, goers, parts)), ("worth",))
            self.fault(GREATEST, ("broken", self.claim[:4] + (worth,), (word, goers, parts[::-1])), ("worth",))
        self.fault(GREATEST, certificate[:2] + ((word, goers, parts[::-1]),), ("part", 0, ("row", 0)))
        self.fault(GREATEST, ("broken", self.claim[:3] + (2, 1), (word, goers, parts)), ("slips",))
        self.right(GREATEST, ("broken", self.claim[:3] + (3, 1), (word, goers, parts)))
        for content in ((word, goers, parts[:1]), (word, (0,), parts), (word, goers), ("less", goers, parts), (word,)):
            self.fault(GREATEST, certificate[:2] + (content,), ("form",))

    def test_less(self):
        claim = ("best", "newest", (1, 1, 1), 2, 2)
        certificate = decide(GREATEST, claim)
        self.right(GREATEST, certificate)
        word, answers = certificate[2]
        self.assertEqual((word, len(answers)), ("less", 4))
        none = ("bounds", (None, None))
        # The sets are (0, 1), (0, 1, 2), (0, 2) and (1, 2), of a worth of at least two.
        for index, sums in ((0, 2), (2, 2), (3, 2)):
            wrong = answers[:index] + (none,) + answers[index + 1:]
            self.fault(GREATEST, ("broken", claim, (word, wrong)), ("set", index, ("sum",)))
            self.right(GREATEST, ("broken", claim[:3] + (sums - 1, 2), (word, wrong)))
        self.fault(GREATEST, ("broken", claim, (word, answers[:3])), ("form",))
        self.fault(GREATEST, ("broken", claim[:4] + (1,), (word, answers)), ("form",))
        self.fault(GREATEST, ("broken", claim[:4] + (3,), (word, answers)), ("form",))
        self.right(GREATEST, ("broken", claim[:4] + (3,), (word, answers[1:2])))
        # Each bound counts one slip more than the classes that its tree is against.
        bounds = answers[1][1]
        for own, total in (((None, bounds[1], None), 4), ((None, None, bounds[2]), 5), (bounds, 6)):
            content = (word, (("bounds", own),))
            for most, expected in ((total - 1, None), (total, ("set", 0, ("sum",))), (total + 1, ("set", 0, ("sum",)))):
                self.fault(GREATEST, ("broken", claim[:3] + (most, 3), content), expected)
        # Where no set has such a worth, nothing is to be shown.
        self.right(GREATEST, ("broken", claim[:4] + (4,), (word, ())))

    def test_sets_with_like_worths_and_worths_of_0(self):
        for order in ORDERS:
            for worths in ((0, 0, 0), (0, 1, 1), (99, 99, 99)):
                for worth in (0, 1, 2, 99, 198, 297):
                    for house in (GREATEST, GATE):
                        self.right(house, decide(house, ("best", order, worths, 3, worth)))


if __name__ == "__main__":
    unittest.main()
