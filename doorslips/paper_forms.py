"""The forms of the papers of which certificates consist: cases, parts, lines, trees, answers, and costs."""

from doorslips.forms import are_rows, ascends, is_integer, is_tuple
from doorslips.histories import MOST_EVENTS, is_event
from doorslips.houses import content_form, is_content
from doorslips.keepers import is_slip
from doorslips.uses import goer_form

MOST_COMERS = 64
MOST_LINES = 36
MOST_NODES = 6000
MOST_NODES_ON_A_WAY = 9
MOST_CLASSES = 7
MOST_COST = 1000


def are_comers(house, value):
    """Tell whether a value is a tuple of kinds, no more than there may be on paper."""
    return is_tuple(value, 0, MOST_COMERS) and all(is_kind_index(house, kind) for kind in value)


def are_cases(house, value):
    """Tell whether a value is a pair of cases."""
    return is_tuple(value, 2, 2) and all(_is_case(house, case) for case in value)


def is_part(house, value):
    """Tell whether a value is a triple of pairs, doors and rows."""
    if not is_tuple(value, 3, 3):
        return False
    content = content_form(house)
    pairs, doors, rows = value
    if not are_pairs(house, pairs) or not are_rows(doors, (content, is_slip), 1):
        return False
    return are_rows(rows, (is_slip, content, content), 3)


def are_parts(house, value, many):
    """Tell whether a value is a tuple of so many parts."""
    return is_tuple(value, many, many) and all(is_part(house, part) for part in value)


def are_pairs(house, value):
    """Tell whether a value is a strictly ascending tuple of pairs of contents."""
    content = content_form(house)
    return are_rows(value, (content, content), 2)


def is_against(house, lines, tree):
    """Tell whether values are lines and a tree by them."""
    if not is_tuple(lines, 0, MOST_LINES) or not all(are_cases(house, line) for line in lines):
        return False
    return _is_tree(house, len(lines), tree)


def are_answers(house, value, sets, is_answer):
    """Tell whether a value is a tuple with an answer for each of the sets, as is_answer(house, set, value) tells."""
    if not is_tuple(value, len(sets), len(sets)):
        return False
    return all(is_answer(house, goers, answer) for goers, answer in zip(sets, value))


def is_can_answer(house, goers, value):
    """Tell whether a value is ("can", parts), with a part for each kind of a set."""
    return is_tuple(value, 2, 2) and value[0] == "can" and are_parts(house, value[1], len(goers))


def is_never_answer(house, goers, value):
    """Tell whether a value is ("never", kind of a set, cases)."""
    if not is_tuple(value, 3, 3) or value[0] != "never":
        return False
    return is_integer(value[1], 0, goers[-1]) and value[1] in goers and are_cases(house, value[2])


def is_bounds_answer(house, goers, value):
    """Tell whether a value is ("bounds", trees), with a tree or None for each kind of a set."""
    if not is_tuple(value, 2, 2) or value[0] != "bounds" or not is_tuple(value[1], len(goers), len(goers)):
        return False
    return all(bound is None or _is_bound(house, bound) for bound in value[1])


def are_events(house, value):
    """Tell whether a value is a tuple of events of the house, whether a use lets them happen or not."""
    return is_tuple(value, 0, MOST_EVENTS) and all(is_event(house, event) for event in value)


def are_contents(house, value):
    """Tell whether a value is a strictly ascending tuple of contents."""
    return isinstance(value, tuple) and all(is_content(house[0], content) for content in value) and ascends(value)


def are_kept_rows(house, use, value):
    """Tell whether a value is a strictly ascending tuple of (goer, slip, present, wanted)."""
    content = content_form(house)
    return are_rows(value, (goer_form(use), is_slip, content, content), 4)


def are_exchange_rows(house, value):
    """Tell whether a value is a strictly ascending tuple of (kind, slip, newer)."""
    return are_rows(value, (lambda kind: is_kind_index(house, kind), is_slip, is_slip), 3)


def are_costed(house, use, doors, pairs, rows):
    """Tell whether values are doors, pairs and rows of a keeper, each with its cost."""
    goer, content = goer_form(use), content_form(house)
    if not are_rows(doors, (content, _is_cost), 1) or not are_rows(pairs, (content, content, _is_cost), 2):
        return False
    return are_rows(rows, (goer, is_slip, content, content, _is_cost), 4)


def is_kind_index(house, value):
    """Tell whether a value is the index of a kind of the house."""
    return is_integer(value, 0, len(house[2]) - 1)


def _is_case(house, value):
    if not is_tuple(value, 3, 3):
        return False
    comers, gone, later = value
    if not are_comers(house, comers) or not isinstance(gone, tuple) or not are_comers(house, later):
        return False
    return all(is_integer(index, 0, len(comers) - 1) for index in gone) and ascends(gone)


def _is_bound(house, value):
    return is_tuple(value, 3, 3) and is_integer(value[0], 1, MOST_CLASSES) and is_against(house, value[1], value[2])


def _is_tree(house, many_lines, value):
    """Tell whether a value is a tree by so many lines, its nodes being looked at level by level."""
    level, nodes = [value], 1
    for _ in range(MOST_NODES_ON_A_WAY):
        below = []
        for node in level:
            if not _is_node(house, many_lines, node):
                return False
            if node[0] == "put":
                below.extend(node[2])
                # What is too large is not gone through to its end: one thing may stand in it again and again.
                if nodes + len(below) > MOST_NODES:
                    return False
        level = below
        nodes += len(level)
    return not level


def _is_node(house, many_lines, value):
    if is_tuple(value, 2, 2):
        return value[0] == "alike" and is_integer(value[1], 0, many_lines - 1)
    if not is_tuple(value, 3, 3) or value[0] != "put":
        return False
    return is_content(house[0], value[1]) and isinstance(value[2], tuple)


def _is_cost(value):
    return is_integer(value, 0, MOST_COST)
