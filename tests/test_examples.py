r"""The examples of the interface, and those of README.md, as they stand there.

>>> from doorslips.houses import contents
>>> first = (("when", 0, 0, 0, ("add", 1, 1)), ("when", 0, 1, 1, ("add", 1, 2)))
>>> turn = ((2, 3), (0, 0), (first, (("add", 0, 1),)))
>>> contents(turn)
((0, 0), (0, 1), (0, 2), (1, 0), (1, 1), (1, 2))

>>> from doorslips.kinds import after
>>> first = (("when", 0, 0, 0, ("add", 1, 1)), ("when", 0, 1, 1, ("add", 1, 2)))
>>> turn = ((2, 3), (0, 0), (first, (("add", 0, 1),)))
>>> (after(turn, (0, 0), (0, 1, 0)), after(turn, (1, 0), (0,)))
((1, 0), (1, 2))
>>> from doorslips.kinds import table
>>> table(((2,), (0,), ((("add", 0, 1),), ())))
(((0,), 0, (1,)), ((0,), 1, (0,)), ((1,), 0, (0,)), ((1,), 1, (1,)))

>>> from doorslips.uses import all_sets
>>> first = (("when", 0, 0, 0, ("add", 1, 1)), ("when", 0, 1, 1, ("add", 1, 2)))
>>> turn = ((2, 3), (0, 0), (first, (("add", 0, 1),)))
>>> all_sets(turn)
((0,), (0, 1), (1,))

>>> from doorslips.histories import due, inside, is_history
>>> first = (("when", 0, 0, 0, ("add", 1, 1)), ("when", 0, 1, 1, ("add", 1, 2)))
>>> turn = ((2, 3), (0, 0), (first, (("add", 0, 1),)))
>>> use, events = ("any", (0,)), (("in", 0), ("in", 1), ("in", 0), ("out", 0))
>>> (is_history(turn, use, events), inside(turn, use, events), due(turn, use, events))
(True, (1, 2), (1, 2))

>>> from doorslips.pairs import pairs
>>> greatest = ((3,), (0,), ((("raise", 0, 0),), (("raise", 0, 1),), (("raise", 0, 2),)))
>>> newest = ("newest", (0, 1, 2))
>>> pairs(greatest, newest)
(((0,), (0,)), ((1,), (1,)), ((2,), (2,)))

>>> from doorslips.questions import doors, questions
>>> greatest = ((3,), (0,), ((("raise", 0, 0),), (("raise", 0, 1),), (("raise", 0, 2),)))
>>> newest = ("newest", (0, 1, 2))
>>> (doors(greatest), questions(greatest, newest, 1, (0,)))
(((0,), (1,), (2,)), (((1,), (0,)),))

>>> from doorslips.clashes import clashes, never_cases
>>> greatest = ((3,), (0,), ((("raise", 0, 0),), (("raise", 0, 1),), (("raise", 0, 2),)))
>>> newest = ("newest", (0, 1, 2))
>>> (clashes(greatest, newest, 1), never_cases(greatest, newest, 1))
((((0,), (1,)),), None)

>>> from doorslips.slips import least_slips
>>> greatest = ((3,), (0,), ((("raise", 0, 0),), (("raise", 0, 1),), (("raise", 0, 2),)))
>>> newest = ("newest", (0, 1, 2))
>>> eight = ((8,), (0,), ((("set", 0, 0),), (("add", 0, 1),)))
>>> ([least_slips(greatest, newest, kind) for kind in range(3)], least_slips(greatest, ("any", (0, 1, 2)), 2), least_slips(eight, ("newest", (0,)), 0))
([1, 2, 3], None, 8)

>>> from doorslips.keepers import first_error, keeper_of, played
>>> first = (("when", 0, 0, 0, ("add", 1, 1)), ("when", 0, 1, 1, ("add", 1, 2)))
>>> turn = ((2, 3), (0, 0), (first, (("add", 0, 1),)))
>>> use, events = ("oldest", (0, 1)), (("in", 0), ("in", 1), ("in", 0), ("out", 0))
>>> (played(turn, use, keeper_of(turn, use), events), first_error(turn, ("any", (0,)), ((), ())))
((1, 2), (('in', 0),))

>>> from doorslips.exchanges import exchange_of
>>> from doorslips.keepers import first_error
>>> last, use = ((3,), (0,), ((("set", 0, 1),), (("set", 0, 2),))), ("newest", (0,))
>>> poor = (((0, (0,), 0), (0, (1,), 0), (0, (2,), 0)), ((0, 0, (1,), (0,)), (0, 0, (2,), (2,))))
>>> rich = (((0, (0,), 0), (0, (1,), 1), (0, (2,), 2)), ())
>>> (exchange_of(last, use, rich, poor), exchange_of(last, use, poor, rich), len(first_error(last, use, poor)))
(((0, 0, 0), (0, 1, 0), (0, 2, 0)), None, 3)

>>> from doorslips.sets import best_worth, sets_that_go
>>> first = (("when", 0, 0, 0, ("add", 1, 1)), ("when", 0, 1, 1, ("add", 1, 2)))
>>> turn = ((2, 3), (0, 0), (first, (("add", 0, 1),)))
>>> (sets_that_go(turn, "oldest"), best_worth(turn, "oldest", (5, 3), 2), best_worth(turn, "oldest", (5, 3), 1))
(((0,), (0, 1)), 8, None)

>>> from doorslips.claims import decide
>>> first = (("when", 0, 0, 0, ("add", 1, 1)), ("when", 0, 1, 1, ("add", 1, 2)))
>>> turn = ((2, 3), (0, 0), (first, (("add", 0, 1),)))
>>> (decide(turn, ("can", ("any", (1,))))[0], decide(turn, ("least", ("any", (0,)), 0, 2))[0])
('broken', 'shown')

>>> from doorslips.checker import first_fault
>>> first = (("when", 0, 0, 0, ("add", 1, 1)), ("when", 0, 1, 1, ("add", 1, 2)))
>>> turn = ((2, 3), (0, 0), (first, (("add", 0, 1),)))
>>> first_fault(turn, ("shown", ("never", ("any", (1,)), 1), (((), (), ()), ((), (), ()))))
('wanted',)

>>> from doorslips.windows import Window
>>> first = (("when", 0, 0, 0, ("add", 1, 1)), ("when", 0, 1, 1, ("add", 1, 2)))
>>> turn = ((2, 3), (0, 0), (first, (("add", 0, 1),)))
>>> window = Window(turn, ("oldest", (0, 1)))
>>> numbers = [window.enter(0), window.enter(1)]
>>> window.leave(0)
>>> (numbers, window.content(), window.due(), window.inside(), len(window))
([0, 1], (1, 0), (1, 0), (1,), 3)

>>> from doorslips.texts import format_house, format_use
>>> first = (("when", 0, 0, 0, ("add", 1, 1)), ("when", 0, 1, 1, ("add", 1, 2)))
>>> turn = ((2, 3), (0, 0), (first, (("add", 0, 1),)))
>>> (format_house(turn), format_use(("oldest", (0, 1))))
('cells 2 3\nbegin 0 0\nkind\nwhen 0 0 0 add 1 1\nwhen 0 1 1 add 1 2\nkind\nadd 0 1\n', 'oldest 0 1\n')
"""

import doctest
import pathlib
import sys
import unittest

README = pathlib.Path(__file__).resolve().parent.parent / "README.md"


class TestExamples(unittest.TestCase):
    def run_examples(self, text, least):
        test = doctest.DocTestParser().get_doctest(text, {}, self.id(), None, 0)
        failed, tried = doctest.DocTestRunner(verbose=False).run(test, out=sys.stdout.write)
        self.assertGreaterEqual(tried, least)
        self.assertEqual(failed, 0)

    def test_the_interface(self):
        self.run_examples(__doc__, 70)

    def test_the_readme(self):
        # The fence behind an example's answer is no part of that answer.
        self.run_examples(README.read_text(encoding="utf-8").replace("```", "\n"), 5)


if __name__ == "__main__":
    unittest.main()
