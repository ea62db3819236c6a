"""Stage 15: texts of houses and of uses."""

from doorslips.errors import ParseError
from doorslips.houses import MOST_KINDS, are_sizes, is_content, is_kind
from doorslips.uses import is_use

DIGITS = "0123456789"


def format_house(house):
    """Return the text of a house."""
    sizes, begin, kinds = house
    rows = [("cells",) + sizes, ("begin",) + begin]
    for kind in kinds:
        rows += [("kind",)] + list(kind)
    return "".join([_line(row) for row in rows])


def format_use(use):
    """Return the text of a use."""
    return _line(use)


def parse_house(text):
    """Return the house of a text; raise ParseError with the first line after which it cannot go on to one."""
    lines = text.split("\n")
    rest = lines.pop()
    sizes, begin, kinds = (), (), []
    for index, line in enumerate(lines):
        words = line.split(" ")
        if index == 0:
            sizes = _numbers(words[1:])
            fits = words[0] == "cells" and are_sizes(sizes)
        elif index == 1:
            begin = _numbers(words[1:])
            fits = words[0] == "begin" and is_content(sizes, begin)
        elif line == "kind":
            kinds.append(())
            fits = len(kinds) <= MOST_KINDS
        elif kinds:
            kinds[-1] = kinds[-1] + (_step(words),)
            fits = is_kind(sizes, kinds[-1])
        else:
            fits = False
        if not fits:
            raise ParseError(index)
    if rest or not kinds:
        raise ParseError(len(lines))
    return sizes, begin, tuple(kinds)


def parse_use(text, house):
    """Return the use of a text, one of the house; raise ParseError likewise."""
    lines = text.split("\n")
    rest = lines.pop()
    use = None
    for index, line in enumerate(lines):
        words = line.split(" ")
        use = (words[0], _numbers(words[1:]))
        if index > 0 or not is_use(house, use):
            raise ParseError(index)
    if rest or use is None:
        raise ParseError(len(lines))
    return use


def _line(parts):
    return " ".join(_words(parts)) + "\n"


def _words(parts):
    """Return the list of the words of the parts of a line; those of a tuple among them stand in its place."""
    words = []
    for part in parts:
        if isinstance(part, tuple):
            words += _words(part)
        else:
            words.append(str(part))
    return words


def _step(words):
    """Return what would be a step if its numbers are some; where they are none, it is no step of any house."""
    if words[0] == "when":
        return ("when",) + _numbers(words[1:4]) + (_plain_step(words[4:]),)
    return _plain_step(words)


def _plain_step(words):
    return tuple(words[:1]) + _numbers(words[1:])


def _numbers(words):
    return tuple(_number(word) for word in words)


def _number(word):
    """Return the number that a word is, or None."""
    # No number of a house or of a use is above 8, so one of two digits fits nowhere.
    return int(word) if len(word) == 1 and word in DIGITS else None
