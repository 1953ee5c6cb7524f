"""What counts as an integer: an int that is neither True nor False."""


def is_int(value):
    return isinstance(value, int) and not isinstance(value, bool)


def is_natural(value):
    """Return whether a value is an integer from 0 on."""
    return is_int(value) and value >= 0


def is_int_between(value, least, most):
    return is_int(value) and least <= value <= most
