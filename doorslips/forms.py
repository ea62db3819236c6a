"""Forms that values must have, whatever they are made of."""


def is_integer(value, low, high):
    """Tell whether a value is an integer from low to high."""
    # A bool is an int for Python, but no integer for the document.
    return isinstance(value, int) and not isinstance(value, bool) and low <= value <= high


def is_tuple(value, least, most):
    """Tell whether a value is a tuple whose number of parts is from least to most."""
    return isinstance(value, tuple) and least <= len(value) <= most


def ascends(parts):
    """Tell whether the parts of a tuple ascend strictly."""
    return all(one < two for one, two in zip(parts, parts[1:]))


def are_rows(value, forms, key):
    """Tell whether a value is a tuple of rows that ascend strictly by so many of their first parts.

    forms are functions, one for each part of a row, that tell whether a value may stand there.
    """
    if not isinstance(value, tuple) or not all(_is_row(row, forms) for row in value):
        return False
    return ascends([row[:key] for row in value])


def _is_row(value, forms):
    return is_tuple(value, len(forms), len(forms)) and all(form(part) for form, part in zip(forms, value))
