"""The examples of the interface, and those of README.md, as they stand there.

>>> from doorslips.houses import contents
>>> first = (("when", 0, 0, 0, ("add", 1, 1)), ("when", 0, 1, 1, ("add", 1, 2)))
>>> turn = ((2, 3), (0, 0), (first, (("add", 0, 1),)))
>>> contents(turn)
((0, 0), (0, 1), (0, 2), (1, 0), (1, 1), (1, 2))

>>> from doorslips.kinds import after
>>> first = (("when", 0, 0, 0, ("add", 1, 1)), ("when", 0, 1, 1, ("add", 1, 2)))
>>> turn = ((2, 3), (0, 0), (first, (("add", 0, 1),)))
>>> (after(turn, (0, 0), (0, 1, 0)), after(turn, (1, 0), (0,)))
((1, 0), (1, 2))
>>> from doorslips.kinds import table
>>> table(((2,), (0,), ((("add", 0, 1),), ())))
(((0,), 0, (1,)), ((0,), 1, (0,)), ((1,), 0, (0,)), ((1,), 1, (1,)))

>>> from doorslips.uses import all_sets
>>> first = (("when", 0, 0, 0, ("add", 1, 1)), ("when", 0, 1, 1, ("add", 1, 2)))
>>> turn = ((2, 3), (0, 0), (first, (("add", 0, 1),)))
>>> all_sets(turn)
((0,), (0, 1), (1,))

>>> from doorslips.histories import due, inside, is_history
>>> first = (("when", 0, 0, 0, ("add", 1, 1)), ("when", 0, 1, 1, ("add", 1, 2)))
>>> turn = ((2, 3), (0, 0), (first, (("add", 0, 1),)))
>>> use, events = ("any", (0,)), (("in", 0), ("in", 1), ("in", 0), ("out", 0))
>>> (is_history(turn, use, events), inside(turn, use, events), due(turn, use, events))
(True, (1, 2), (1, 2))

>>> from doorslips.pairs import pairs
>>> greatest = ((3,), (0,), ((("raise", 0, 0),), (("raise", 0, 1),), (("raise", 0, 2),)))
>>> newest = ("newest", (0, 1, 2))
>>> pairs(greatest, newest)
(((0,), (0,)), ((1,), (1,)), ((2,), (2,)))

>>> from doorslips.questions import doors, questions
>>> greatest = ((3,), (0,), ((("raise", 0, 0),), (("raise", 0, 1),), (("raise", 0, 2),)))
>>> newest = ("newest", (0, 1, 2))
>>> (doors(greatest), questions(greatest, newest, 1, (0,)))
(((0,), (1,), (2,)), (((1,), (0,)),))

>>> from doorslips.clashes import clashes, never_cases
>>> greatest = ((3,), (0,), ((("raise", 0, 0),), (("raise", 0, 1),), (("raise", 0, 2),)))
>>> newest = ("newest", (0, 1, 2))
>>> (clashes(greatest, newest, 1), never_cases(greatest, newest, 1))
((((0,), (1,)),), None)
"""

import doctest
import pathlib
import sys
import unittest

README = pathlib.Path(__file__).resolve().parent.parent / "README.md"


class TestExamples(unittest.TestCase):
    def run_examples(self, text, least):
        test = doctest.DocTestParser().get_doctest(text, {}, self.id(), None, 0)
        failed, tried = doctest.DocTestRunner(verbose=False).run(test, out=sys.stdout.write)
        self.assertGreaterEqual(tried, least)
        self.assertEqual(failed, 0)

    def test_the_interface(self):
        self.run_examples(__doc__, 30)

    def test_the_readme(self):
        # The fence behind an example's answer is no part of that answer.
        self.run_examples(README.read_text(encoding="utf-8").replace("```", "\n"), 5)


if __name__ == "__main__":
    unittest.main()
