"""Forms that values must have, whatever they are made of."""


def is_integer(value, low, high):
    """Tell whether a value is an integer from low to high."""
    # A bool is an int for Python, but no integer for the document.
    return isinstance(value, int) and not isinstance(value, bool) and low <= value <= high


def is_tuple(value, least, most):
    """Tell whether a value is a tuple whose number of parts is from least to most."""
    return isinstance(value, tuple) and least <= len(value) <= most


def ascends(parts):
    """Tell whether the parts of a tuple ascend strictly."""
    return all(one < two for one, two in zip(parts, parts[1:]))
