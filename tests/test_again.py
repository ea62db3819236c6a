"""An answer depends on the arguments alone, whatever was asked before it."""

import unittest

from doorslips.checker import first_fault
from doorslips.claims import decide, require_claim
from doorslips.clashes import clashes, never_cases
from doorslips.exchanges import exchange_of
from doorslips.histories import due, inside, is_history
from doorslips.keepers import first_error, keeper_of, played, require_keeper
from doorslips.pairs import pairs
from doorslips.questions import doors, questions
from doorslips.sets import best_goers, best_worth, sets_that_go
from doorslips.slips import classes, least_slips
from doorslips.texts import format_house, format_use, parse_house, parse_use
from doorslips.windows import Window
from tests.claiming import claims_about, drawn
from tests.helper import GREATEST, HOUSES, LAST, ORDERS, Case, all_uses
from tests.keeping import own_slips, uses_that_go


def answers_of(case, house):
    """Return the answers of all functions of a house and its uses."""
    found = [case.answer(doors, house)]
    for use in all_uses(house):
        history = (("in", 0), ("in", use[1][0]), ("in", 0), ("out", 1))
        found.append(case.answer(is_history, house, use, history))
        # By "any", the second entry may always go.
        if use[0] == "any":
            found += [case.answer(inside, house, use, history), case.answer(due, house, use, history)]
        found.append(case.answer(pairs, house, use))
        for kind in use[1]:
            found += [case.answer(questions, house, use, kind, door) for door in doors(house)]
            for function in (clashes, never_cases, least_slips, classes):
                found.append(case.answer(function, house, use, kind))
        keeper = own_slips(house, use)
        found.append(case.answer(require_keeper, house, use, keeper))
        found.append(case.answer(played, house, use, keeper, history[:3]))
        found.append(case.answer(first_error, house, use, keeper))
        found.append(case.answer(exchange_of, house, use, keeper, keeper))
    found += [case.answer(keeper_of, house, use) for use in uses_that_go(house)]
    for order in ORDERS:
        worths = tuple(range(len(house[2])))
        found.append(case.answer(sets_that_go, house, order))
        found += [case.answer(function, house, order, worths, 6) for function in (best_worth, best_goers)]
    for claim in claims_about(house, all_uses(house)[:2], drawn("again"), ("any",)):
        certificate = case.answer(decide, house, claim)
        found += [case.answer(require_claim, house, claim), certificate]
        found += [case.answer(first_fault, house, value) for value in (certificate, certificate[1:] + certificate[:1])]
    return found + answers_of_windows(case, house) + answers_of_texts(case, house)


def answers_of_windows(case, house):
    """Return the answers of some windows of a house."""
    found = []
    for use in uses_that_go(house)[:3]:
        window = case.answer(Window, house, use)
        numbers = [window.enter(use[1][0]), window.enter(0), window.checkpoint(), window.record(("can", use))]
        found += [numbers, window.content(), window.due(), window.inside(), window.keeper(), window.recorded(0)]
        found += [window.slip(0), window.case(0), window.standing(0), len(window)]
    return found


def answers_of_texts(case, house):
    """Return the answers of the functions of texts."""
    text = case.answer(format_house, house)
    found = [text, case.answer(parse_house, text)]
    for use in all_uses(house):
        line = case.answer(format_use, use)
        found += [line, case.answer(parse_use, line, house)]
    return found


class TestAgain(Case):
    def test_a_house_then_others_then_the_first_one_again(self):
        first = [answers_of(self, house) for house in HOUSES]
        again = [answers_of(self, house) for house in reversed(HOUSES)]
        self.same(again[::-1], first)

    def test_houses_with_the_same_cells_and_other_kinds(self):
        other = (GREATEST[0], GREATEST[1], GREATEST[2][1:] + (GREATEST[2][0],))
        later = (GREATEST[0], (1,), GREATEST[2])
        for function, arguments in (
            (due, (("any", (0,)), (("in", 1),))), (pairs, (("any", (0,)),)), (questions, (("any", (0,)), 0, (1,))),
            (clashes, (("any", (0,)), 0)), (never_cases, (("any", (0,)), 0)),
            (least_slips, (("newest", (0, 1)), 1)), (classes, (("newest", (0, 1)), 0)),
            (keeper_of, (("newest", (0, 1)),)),
            (first_error, (("newest", (0,)), keeper_of(GREATEST, ("newest", (0,))))),
            (sets_that_go, ("oldest",)), (best_worth, ("newest", (1, 5, 9), 2)), (best_goers, ("newest", (1, 5, 9), 2)),
        ):
            with self.subTest(function=function):
                before = self.answer(function, GREATEST, *arguments)
                houses = (other, later) if function in (best_worth, best_goers) else (other, later, LAST)
                between = [self.answer(function, house, *arguments) for house in houses]
                self.assertNotEqual(between, [before] * len(between))
                self.same(self.answer(function, GREATEST, *arguments), before)

    def test_uses_of_one_house(self):
        for function, arguments in (
            (pairs, ()), (questions, (1, (1,))), (clashes, (1,)), (never_cases, (1,)), (least_slips, (1,)),
            (classes, (1,)),
        ):
            with self.subTest(function=function):
                uses = [use for use in all_uses(GREATEST) if 1 in use[1]]
                before = [self.answer(function, GREATEST, use, *arguments) for use in uses]
                self.assertNotEqual(before, before[:1] * len(before))
                self.same([self.answer(function, GREATEST, use, *arguments) for use in uses], before)


if __name__ == "__main__":
    unittest.main()
