"""What counts as an integer: an int that is neither True nor False; and how integers are written."""

DIGITS = "0123456789"
# Python refuses to read very long numbers, and no number of the program needs as many digits.
MOST_DIGITS = 60


def is_int(value):
    return isinstance(value, int) and not isinstance(value, bool)


def is_natural(value):
    """Return whether a value is an integer from 0 on."""
    return is_int(value) and value >= 0


def is_int_between(value, least, most):
    return is_int(value) and least <= value <= most


def read_integer(text):
    """Return the integer that is written in decimal digits without leading zeros, or None."""
    digits = text.removeprefix("-")
    if digits == "" or digits.strip(DIGITS) != "" or len(digits) > MOST_DIGITS:
        return None
    number = int(text)
    return number if str(number) == text else None
