"""The checker: values of any kind at any place, and certificates with drawn changes."""

import unittest

from doorslips.checker import first_fault
from doorslips.claims import decide
from doorslips.keepers import keeper_of
from tests.claiming import claims_about, drawn, truth
from tests.helper import (
    FOUR, GATE, GREATEST, HOUSES, HUGE, LAST, NOWHERE, ROUND, SUM, TURN, WINDOW, all_uses, part_at, paths, put,
    some_houses,
)
from tests.test_checker import CheckerCase

NEWEST = ("newest", (0, 1, 2))
POOR = (((0, (0,), 0), (0, (1,), 0), (0, (2,), 0)), ((0, 0, (1,), (0,)), (0, 0, (2,), (2,))))
RICH = (((0, (0,), 0), (0, (1,), 1), (0, (2,), 2)), ())

# A certificate of each claim, word and content.
CERTIFICATES = tuple((house, decide(house, claim)) for house, claim in (
    (GREATEST, ("least", NEWEST, 2, 3)), (GREATEST, ("least", NEWEST, 2, 5)), (GREATEST, ("least", NEWEST, 2, 2)),
    (LAST, ("least", ("any", (0,)), 0, 2)), (LAST, ("never", ("any", (0,)), 0)), (LAST, ("never", ("newest", (0,)), 0)),
    (GREATEST, ("can", ("newest", (0, 1)))), (GREATEST, ("can", ("any", (0, 1)))),
    (TURN, ("sets", "oldest", ((0,), (0, 1)))), (TURN, ("sets", "oldest", ((0,),))),
    (TURN, ("sets", "oldest", ((0,), (0, 1), (1,)))),
    (GREATEST, ("best", "newest", (1, 1, 1), 3, 2)), (GREATEST, ("best", "newest", (1, 1, 1), 3, 1)),
    (GREATEST, ("best", "newest", (1, 1, 1), 3, 3)), (TURN, ("best", "any", (5, 3), 8, 5)),
    (LAST, ("right", ("newest", (0,)), keeper_of(LAST, ("newest", (0,))))), (LAST, ("right", ("newest", (0,)), POOR)),
    (LAST, ("shortest", ("newest", (0,)), POOR, 3)), (LAST, ("shortest", ("newest", (0,)), POOR, 4)),
    (LAST, ("shortest", ("newest", (0,)), POOR, 2)), (LAST, ("exchange", ("newest", (0,)), RICH, POOR)),
    (LAST, ("exchange", ("newest", (0,)), POOR, RICH)), (LAST, ("exchange", ("newest", (0,)), ((), ()), RICH)),
))

# None of these stands at any place of a content: None may stand for a tree, and is tried elsewhere.
NOWHERE_IN_CONTENTS = (10 ** 6, "shown", "Alike", (None,) * 5) + tuple(
    value for value in NOWHERE[:-2] if value is not None
)


class TestFormsOfContents(CheckerCase):
    def test_the_certificates_are_right(self):
        met = set()
        for house, certificate in CERTIFICATES:
            self.right(house, certificate)
            content = certificate[2]
            met.add((certificate[1][0], certificate[0], content[0] if isinstance(content[0], str) else None))
        self.assertEqual(len(met), 22)

    def test_other_values_at_each_place(self):
        for house, certificate in CERTIFICATES:
            for path in paths(certificate[2]):
                for value in NOWHERE_IN_CONTENTS:
                    found = first_fault(house, certificate[:2] + (put(certificate[2], path, value),))
                    # A number that has no bound is that of an entry that goes.
                    free = certificate[1][0] in ("right", "shortest") and value in (HUGE, 10 ** 6)
                    if not (free and found is not None and found[0] == "event"):
                        self.assertEqual(found, ("form",), (certificate[:2], path, repr(value)[:80]))

    def test_lists_at_each_place(self):
        for house, certificate in CERTIFICATES:
            for path in paths(certificate[2]):
                part = part_at(certificate[2], path)
                if isinstance(part, tuple):
                    self.fault(house, certificate[:2] + (put(certificate[2], path, list(part)),), ("form",))

    def test_none_at_each_place(self):
        for house, certificate in CERTIFICATES:
            for path in paths(certificate[2]):
                found = first_fault(house, certificate[:2] + (put(certificate[2], path, None),))
                if certificate[1][0] == "best" and found != ("form",):
                    self.assertIn(found and found[-1], (None, ("sum",)))
                else:
                    self.assertEqual(found, ("form",), (certificate, path))

    def test_a_boolean_for_each_number(self):
        for house, certificate in CERTIFICATES:
            for path in paths(certificate[2]):
                part = part_at(certificate[2], path)
                if isinstance(part, int):
                    self.fault(house, certificate[:2] + (put(certificate[2], path, bool(part)),), ("form",))

    def test_a_part_put_twice_and_left_out(self):
        for house, certificate in CERTIFICATES:
            for path in paths(certificate[2]):
                part = part_at(certificate[2], path)
                if isinstance(part, tuple) and part:
                    for changed in (part + part[-1:], part[:1] + part, part[:-1], part[1:]):
                        value = certificate[:2] + (put(certificate[2], path, changed),)
                        found = self.answer(first_fault, house, value)
                        if isinstance(part[0], str) and changed != part[:1] + part[1:]:
                            self.same(found, ("form",))

    def test_values_in_the_place_of_certificates(self):
        for house in (TURN, FOUR):
            triples = ((NOWHERE,) * 3, ("shown",) * 3, ("shown", "can", ()), house, ("shown", house, house))
            for value in NOWHERE + triples:
                found = self.answer(first_fault, house, value)
                triple = isinstance(value, tuple) and len(value) == 3
                self.same(found, ("claim",) if triple else ("form",))

    def test_values_in_the_place_of_words_claims_and_contents(self):
        for house, certificate in CERTIFICATES:
            word, claim, content = certificate
            for value in NOWHERE:
                self.fault(house, (value, claim, content), ("form",))
                self.fault(house, (word, value, content), ("claim",))
                self.fault(house, (word, claim, value), ("form",))
                self.fault(house, (word, claim, (value,)), ("form",))
                self.fault(house, (word, claim, (value, value)), ("form",))
                self.fault(house, (word, claim, (value,) + content), ("form",))

    def test_contents_of_other_certificates(self):
        for house, certificate in CERTIFICATES:
            for other_house, other in CERTIFICATES:
                if other[1][0] != certificate[1][0]:
                    found = self.answer(first_fault, house, certificate[:2] + other[2:])
                    self.assertIsNotNone(found)


def changed(value, draw):
    """Return a value with a drawn change at a drawn place: something exchanged, left out, turned, put in, or added."""
    path = draw.choice(paths(value))
    part = part_at(value, path)
    if isinstance(part, tuple) and part:
        at = draw.randrange(len(part))
        other = draw.choice(part)
        kinds = (
            part[:at] + part[at + 1:], part[::-1], part[:at] + (other,) + part[at:],
            part[:at] + (other,) + part[at + 1:],
            part + part, (), list(part), part[at],
        )
        return put(value, path, draw.choice(kinds))
    if isinstance(part, int):
        return put(value, path, draw.choice((part + 1, part - 1, True, str(part), (part,), 7, 0)))
    return put(value, path, draw.choice(("can", "never", "put", "alike", "in", "out", "shown", None, 0)))


class TestDrawnChanges(CheckerCase):
    def test_no_change_makes_an_untrue_word_right(self):
        draw = drawn("changes")
        faults = {}
        houses = (TURN, GREATEST, LAST, WINDOW, GATE, ROUND, SUM) + tuple(some_houses(6, "changes"))
        for house in houses:
            uses = draw.sample(all_uses(house), min(2, len(all_uses(house))))
            for claim in claims_about(house, uses, draw):
                certificate = decide(house, claim)
                for _ in range(6):
                    value = changed(certificate, draw)
                    if draw.random() < 0.3:
                        value = changed(value, draw)
                    found = self.answer(first_fault, house, value)
                    faults[found and found[0]] = faults.get(found and found[0], 0) + 1
                    if found is None:
                        self.assertEqual(value[0] == "shown", truth(house, value[1]), value)
                    else:
                        self.assertIs(type(found), tuple)
        # Some changes leave a certificate right, and most do not.
        self.assertGreater(faults[None], 50)
        self.assertGreater(len(faults), 20)

    def test_a_right_certificate_is_right_of_no_other_claim(self):
        draw = drawn("claims")
        for house in HOUSES[:5]:
            use = draw.choice(all_uses(house))
            claims = claims_about(house, (use,), draw, ("any", "newest"))
            for claim in claims:
                certificate = decide(house, claim)
                for other in draw.sample(claims, 8):
                    value = (certificate[0], other, certificate[2])
                    if self.answer(first_fault, house, value) is None:
                        self.assertEqual(value[0] == "shown", truth(house, other), value)

    def test_certificates_of_other_houses(self):
        draw = drawn("houses")
        houses = some_houses(8, "standing")
        for house in houses:
            # The same cells and as many kinds, one of them another one.
            index = draw.randrange(len(house[2]))
            kinds = house[2][:index] + (house[2][index][:-1] or (("add", 0, 1),),) + house[2][index + 1:]
            other = house[:2] + (kinds,)
            use = draw.choice(all_uses(house))
            for claim in claims_about(house, (use,), draw, ("oldest",)):
                certificate = decide(house, claim)
                if self.answer(first_fault, other, certificate) is None:
                    self.assertEqual(certificate[0] == "shown", truth(other, claim))


if __name__ == "__main__":
    unittest.main()
