"""The forms of the contents of certificates: what stands in one, by its claim and its word."""

from doorslips.forms import is_tuple
from doorslips.paper_forms import (
    MOST_CLASSES, are_answers, are_cases, are_comers, are_contents, are_costed, are_events, are_exchange_rows,
    are_kept_rows, are_pairs, are_parts, is_against, is_bounds_answer, is_can_answer, is_never_answer, is_part,
)
from doorslips.sets import worth_of
from doorslips.uses import all_sets, is_goer, is_set_of_kinds

WORDS = ("shown", "broken")


def is_of_form(house, claim, word, content):
    """Tell whether a word is one, and a content is what stands in a certificate of this claim and word."""
    if word not in WORDS:
        return False
    form = CONTENTS[claim[0]]
    return form(house, claim, word == "shown", content)


def sets_from(house, worths, least):
    """Return the sets with at least this worth, ascending."""
    return [goers for goers in all_sets(house) if worth_of(worths, goers) >= least]


def _is_least(house, claim, shown, content):
    if shown:
        return is_tuple(content, 3, 3) and is_part(house, content[0]) and is_against(house, content[1], content[2])
    if is_tuple(content, 3, 3):
        return content[0] == "more" and claim[3] <= MOST_CLASSES and is_against(house, content[1], content[2])
    if not is_tuple(content, 2, 2):
        return False
    word, paper = content
    return (word == "less" and is_part(house, paper)) or (word == "never" and are_cases(house, paper))


def _is_never(house, claim, shown, content):
    return are_cases(house, content) if shown else is_part(house, content)


def _is_can(house, claim, shown, content):
    if shown:
        return are_parts(house, content, len(claim[1][1]))
    return is_tuple(content, 2, 2) and is_goer(claim[1], content[0]) and are_cases(house, content[1])


def _is_sets(house, claim, shown, content):
    if shown:
        return are_answers(house, content, all_sets(house), _is_answer_of_sets)
    if not is_tuple(content, 3, 4) or not is_set_of_kinds(house, content[1]):
        return False
    if content[0] == "lacks":
        return is_tuple(content, 3, 3) and are_parts(house, content[2], len(content[1]))
    return content[0] == "wrong" and is_never_answer(house, content[1], ("never",) + content[2:])


def _is_best(house, claim, shown, content):
    _, _, worths, _, worth = claim
    if shown:
        if not is_tuple(content, 3, 3) or not _is_set_with_parts(house, content[0], content[1]):
            return False
        return are_answers(house, content[2], sets_from(house, worths, worth + 1), _is_answer_of_best)
    if is_tuple(content, 3, 3):
        return content[0] == "more" and _is_set_with_parts(house, content[1], content[2])
    if not is_tuple(content, 2, 2) or content[0] != "less":
        return False
    return are_answers(house, content[1], sets_from(house, worths, worth), _is_answer_of_best)


def _is_right(house, claim, shown, content):
    if not shown:
        return are_events(house, content)
    return is_tuple(content, 2, 2) and are_pairs(house, content[0]) and are_kept_rows(house, claim[1], content[1])


def _is_shortest(house, claim, shown, content):
    if shown or is_tuple(content, 4, 4):
        if not is_tuple(content, 4, 4):
            return False
        head, doors, pairs, rows = content
        is_head = are_events(house, head) if shown else head == "more"
        return is_head and are_costed(house, claim[1], doors, pairs, rows)
    return is_tuple(content, 2, 2) and content[0] == "less" and are_events(house, content[1])


def _is_exchange(house, claim, shown, content):
    if shown:
        return is_tuple(content, 2, 2) and are_contents(house, content[0]) and are_exchange_rows(house, content[1])
    if not is_tuple(content, 3, 4) or not is_goer(claim[1], content[1]):
        return False
    # What lacks is shown by one tuple of comers, and two newer slips by two of them.
    if content[0] != ("lacks" if len(content) == 3 else "two"):
        return False
    return all(are_comers(house, comers) for comers in content[2:])


def _is_set_with_parts(house, goers, parts):
    return is_set_of_kinds(house, goers) and are_parts(house, parts, len(goers))


def _is_answer_of_sets(house, goers, value):
    return is_can_answer(house, goers, value) or is_never_answer(house, goers, value)


def _is_answer_of_best(house, goers, value):
    return is_bounds_answer(house, goers, value) or is_never_answer(house, goers, value)


CONTENTS = {
    "least": _is_least,
    "never": _is_never,
    "can": _is_can,
    "sets": _is_sets,
    "best": _is_best,
    "right": _is_right,
    "shortest": _is_shortest,
    "exchange": _is_exchange,
}
