"""What the tests tell of claims and certificates by themselves: the truth of claims, and what papers consist of."""

import itertools
import random

from doorslips.clashes import never_cases
from doorslips.exchanges import exchange_of
from doorslips.keepers import first_error, keeper_of
from doorslips.sets import best_worth, sets_that_go
from doorslips.slips import least_slips
from doorslips.uses import all_sets
from tests.helper import ORDERS
from tests.keeping import own_slips, spoiled, uses_that_go


def truth(house, claim):
    """Return whether a claim is true of a house."""
    word, *parts = claim
    if word == "least":
        return least_slips(house, parts[0], parts[1]) == parts[2]
    if word == "never":
        return never_cases(house, *parts) is not None
    if word == "can":
        return all(never_cases(house, parts[0], kind) is None for kind in parts[0][1])
    if word == "sets":
        return sets_that_go(house, parts[0]) == parts[1]
    if word == "best":
        return best_worth(house, *parts[:3]) == parts[3]
    if word == "exchange":
        return exchange_of(house, *parts) is not None
    error = first_error(house, parts[0], parts[1])
    return error is None if word == "right" else error is not None and len(error) == parts[2]


def claims_of_use(house, use):
    """Return claims about the goers of a use, true and false ones."""
    claims = [("can", use)]
    for kind in use[1]:
        claims += [("never", use, kind)] + [("least", use, kind, many) for many in range(1, 9)]
    return claims


def claims_of_order(house, order, draw):
    """Return claims about the sets of kinds by an order, true and false ones."""
    sets, there = sets_that_go(house, order), all_sets(house)
    claims = [("sets", order, found) for found in dict.fromkeys((sets, sets[1:], sets[:-1], (), there))]
    more = tuple(sorted(set(sets) | {draw.choice(there)}))
    claims.append(("sets", order, more))
    for most in (0, draw.randint(1, 6), 32):
        worths = tuple(draw.choice((0, 1, 2, 7, 99)) for _ in house[2])
        best = best_worth(house, order, worths, most) or 0
        for worth in sorted({0, max(best - 1, 0), best, best + 1, 396}):
            claims.append(("best", order, worths, most, min(worth, 396)))
    return claims


def claims_of_keepers(house, use, draw):
    """Return claims about keepers of a use, true and false ones."""
    own = own_slips(house, use)
    keepers = [own] + spoiled(house, own, draw)
    if use in uses_that_go(house):
        keepers.append(keeper_of(house, use))
    claims = []
    for keeper in keepers:
        error = first_error(house, use, keeper)
        least = 3 if error is None else len(error)
        claims.append(("right", use, keeper))
        claims += [("shortest", use, keeper, many) for many in sorted({1, max(least - 1, 1), least, least + 1, 400})]
    claims += [("exchange", use, old, new) for old, new in itertools.product(keepers[:2] + keepers[-2:], repeat=2)]
    return claims


def claims_about(house, uses, draw, orders=ORDERS):
    """Return claims of all eight kinds about a house, true and false ones."""
    claims = []
    for use in uses:
        claims += claims_of_use(house, use) + claims_of_keepers(house, use, draw)
    for order in orders:
        claims += claims_of_order(house, order, draw)
    return claims


def nodes_of(tree):
    """Return (how many nodes a tree has, how many are on the longest way from its root)."""
    if tree[0] == "alike":
        return 1, 1
    below = [nodes_of(child) for child in tree[2]]
    return 1 + sum(nodes for nodes, _ in below), 1 + max([deep for _, deep in below], default=0)


class Papers:
    """The papers in a certificate: parts, cases, trees as (number of lines, tree), histories, costs."""

    def __init__(self, certificate):
        self.parts, self.cases, self.trees, self.histories, self.costs, self.comers = [], [], [], [], [], []
        word, claim, content = certificate
        read = getattr(self, "read_" + claim[0])
        read(word == "shown", content)

    def read_tree(self, lines, tree):
        self.trees.append((len(lines), tree))
        self.cases += [case for line in lines for case in line]

    def read_answer(self, answer):
        if answer[0] == "can":
            self.parts += answer[1]
        elif answer[0] == "never":
            self.cases += answer[2]
        else:
            for bound in answer[1]:
                if bound is not None:
                    self.read_tree(bound[1], bound[2])

    def read_least(self, shown, content):
        if shown:
            self.parts.append(content[0])
            self.read_tree(content[1], content[2])
        elif content[0] == "less":
            self.parts.append(content[1])
        elif content[0] == "more":
            self.read_tree(content[1], content[2])
        else:
            self.cases += content[1]

    def read_never(self, shown, content):
        if shown:
            self.cases += content
        else:
            self.parts.append(content)

    def read_can(self, shown, content):
        if shown:
            self.parts += content
        else:
            self.cases += content[1]

    def read_sets(self, shown, content):
        if shown:
            for answer in content:
                self.read_answer(answer)
        elif content[0] == "lacks":
            self.parts += content[2]
        else:
            self.cases += content[3]

    def read_best(self, shown, content):
        answers = ()
        if shown:
            self.parts += content[1]
            answers = content[2]
        elif content[0] == "more":
            self.parts += content[2]
        else:
            answers = content[1]
        for answer in answers:
            self.read_answer(answer)

    def read_right(self, shown, content):
        if not shown:
            self.histories.append(content)

    def read_shortest(self, shown, content):
        if shown or content[0] == "less":
            self.histories.append(content[0] if shown else content[1])
        if shown or content[0] == "more":
            for rows in content[1:]:
                self.costs += [row[-1] for row in rows]

    def read_exchange(self, shown, content):
        if not shown:
            self.comers += content[2:]


def drawn(seed):
    """Return a source of draws by the seed alone."""
    return random.Random(seed)
