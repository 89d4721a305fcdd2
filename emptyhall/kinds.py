"""What is asked of a handed-in value ahead of its meaning."""


def is_whole(value):
    """Tell whether the value is a whole number."""
    # Python counts True and False among the whole numbers; the document doesn't.
    return isinstance(value, int) and not isinstance(value, bool)


def is_within(value, least, most):
    """Tell whether the value is a whole number from least to most."""
    return is_whole(value) and least <= value <= most


def is_tuple_of(value, size):
    """Tell whether the value is a tuple with so many entries."""
    return isinstance(value, tuple) and len(value) == size
