"""Arguments by the names in the interface: the same as by position."""

import inspect
import unittest

from doorslips import (
    checker, claims, clashes, errors, exchanges, histories, houses, keepers, kinds, pairs, questions, sets, slips,
    texts,
    uses,
)
from doorslips.windows import Window
from tests.helper import LAST, TURN, Case

NEWEST = ("newest", (0,))
KEEPER = keepers.keeper_of(LAST, NEWEST)
HISTORY = (("in", 1), ("in", 0), ("out", 1))
CLAIM = ("least", NEWEST, 0, 3)
CERTIFICATE = claims.decide(LAST, CLAIM)

# Each function of the interface, with its arguments in their order.
FUNCTIONS = (
    (houses.require_house, {"value": LAST}),
    (houses.contents, {"house": LAST}),
    (kinds.after, {"house": LAST, "content": (0,), "comers": (0, 1, 0)}),
    (kinds.table, {"house": LAST}),
    (uses.require_use, {"house": LAST, "value": NEWEST}),
    (uses.all_sets, {"house": LAST}),
    (histories.is_history, {"house": LAST, "use": NEWEST, "value": HISTORY}),
    (histories.inside, {"house": LAST, "use": NEWEST, "history": HISTORY}),
    (histories.due, {"house": LAST, "use": NEWEST, "history": HISTORY}),
    (pairs.pairs, {"house": LAST, "use": NEWEST}),
    (questions.doors, {"house": LAST}),
    (questions.questions, {"house": LAST, "use": NEWEST, "kind": 0, "door": (1,)}),
    (clashes.clashes, {"house": LAST, "use": NEWEST, "kind": 0}),
    (clashes.never_cases, {"house": LAST, "use": ("any", (0,)), "kind": 0}),
    (slips.least_slips, {"house": LAST, "use": NEWEST, "kind": 0}),
    (slips.classes, {"house": LAST, "use": NEWEST, "kind": 0}),
    (keepers.require_keeper, {"house": LAST, "use": NEWEST, "value": KEEPER}),
    (keepers.keeper_of, {"house": LAST, "use": NEWEST}),
    (keepers.played, {"house": LAST, "use": NEWEST, "keeper": KEEPER, "history": HISTORY}),
    (keepers.first_error, {"house": LAST, "use": NEWEST, "keeper": (KEEPER[0], KEEPER[1][1:])}),
    (exchanges.exchange_of, {"house": LAST, "use": NEWEST, "old": KEEPER, "new": KEEPER}),
    (sets.sets_that_go, {"house": TURN, "order": "oldest"}),
    (sets.best_worth, {"house": TURN, "order": "oldest", "worths": (5, 3), "most": 2}),
    (sets.best_goers, {"house": TURN, "order": "oldest", "worths": (5, 3), "most": 2}),
    (claims.require_claim, {"house": LAST, "claim": CLAIM}),
    (claims.decide, {"house": LAST, "claim": CLAIM}),
    (checker.first_fault, {"house": LAST, "certificate": CERTIFICATE}),
    (texts.format_house, {"house": LAST}),
    (texts.format_use, {"use": NEWEST}),
    (texts.parse_house, {"text": texts.format_house(LAST)}),
    (texts.parse_use, {"text": "newest 0\n", "house": LAST}),
)

# The methods of a window, as a play in which each one is called with its arguments in their order.
PLAY = (
    ("enter", {"kind": 1}), ("enter", {"kind": 0}), ("content", {}), ("due", {}), ("is_due", {}), ("inside", {}),
    ("kind_of", {"number": 1}), ("slip", {"number": 1}), ("case", {"number": 1}), ("use", {}), ("keeper", {}),
    ("checkpoint", {}), ("set_keeper", {"keeper": KEEPER}), ("leave", {"number": 1}),
    ("set_use", {"use": ("newest", (0,)), "keeper": KEEPER}), ("set_use", {"use": ("newest", (0,))}),
    ("set_kind", {"index": 0, "kind": (("set", 0, 0),), "keeper": KEEPER}), ("set_kind", {"index": 0, "kind": ()}),
    ("house", {}), ("restore", {"number": 0}), ("decide", {"claim": CLAIM}), ("record", {"claim": CLAIM}),
    ("records", {}), ("recorded", {"number": 0}), ("standing", {"number": 0}),
)

# Each class of errors, with the built-in one that it derives from and the names of its arguments.
ERRORS = (
    ("InvalidHouse", ValueError, ("part",)), ("InvalidUse", ValueError, ()), ("InvalidKeeper", ValueError, ()),
    ("InvalidWorths", ValueError, ()), ("InvalidClaim", ValueError, ()), ("ParseError", ValueError, ("line",)),
    ("UnknownKind", LookupError, ("index",)), ("UnknownEntry", LookupError, ("number",)),
    ("UnknownCheckpoint", LookupError, ("number",)), ("UnknownRecord", LookupError, ("number",)),
    ("Never", RuntimeError, ("kind",)), ("Stays", RuntimeError, ("number",)), ("NotNow", RuntimeError, ("number",)),
    ("Lacking", RuntimeError, ("number",)), ("LimitExceeded", OverflowError, ("limit",)),
)


class TestNames(Case):
    def test_functions(self):
        for function, arguments in FUNCTIONS:
            with self.subTest(function=function):
                self.assertEqual(list(inspect.signature(function).parameters), list(arguments))
                by_position = self.answer(function, *arguments.values())
                self.same(self.answer(function, **arguments), by_position)
                self.same(self.answer(function, **dict(reversed(arguments.items()))), by_position)

    def test_windows(self):
        self.assertEqual(str(inspect.signature(Window)), "(house, use, keeper=None)")
        windows = (Window(LAST, NEWEST, KEEPER), Window(keeper=KEEPER, use=NEWEST, house=LAST))
        for name, arguments in PLAY:
            with self.subTest(name=name):
                self.assertIn(name, vars(Window))
                listed = list(inspect.signature(getattr(windows[0], name)).parameters)
                self.assertEqual(listed[:len(arguments)], list(arguments))
                self.assertIn(listed[len(arguments):], ([], ["keeper"]))
                by_position = self.answer(getattr(windows[0], name), *arguments.values())
                self.same(self.answer(getattr(windows[1], name), **arguments), by_position)
                self.assertEqual(len(windows[0]), len(windows[1]))
        # All of its methods that can be called so have been.
        self.assertEqual({name for name, _ in PLAY}, {name for name in vars(Window) if not name.startswith("_")})

    def test_errors(self):
        for name, builtin, arguments in ERRORS:
            with self.subTest(name=name):
                found = getattr(errors, name)
                self.assertEqual(found.__bases__, (builtin,))
                values = dict.fromkeys(arguments, 7)
                self.assertEqual(vars(found(**values)), values)
                self.assertEqual(vars(found(*values.values())), values)


if __name__ == "__main__":
    unittest.main()
