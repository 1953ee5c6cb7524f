"""Rows of effects, without the objects that hold them.

The rows of an effect are a tuple with one row for each start length from 0 to
the capacity. A row is None if the effect fails, otherwise (kept, word).
"""

from fullqueue.integers import is_int_between
from fullqueue.letters import has_letters_only
from fullqueue.programs import ending


def is_row(value, length, capacity):
    """Return whether a value is a row for a start length."""
    if value is None:
        return True
    if not isinstance(value, tuple) or len(value) != 2:
        return False
    kept, word = value
    return is_int_between(kept, 0, length) and has_letters_only(word) and kept + len(word) <= capacity


def identity_rows(capacity):
    return tuple([(length, "") for length in range(capacity + 1)])


def product_rows(first, second):
    """Return the rows of one effect followed by another one of the same capacity."""
    return tuple([row_after(row, second) for row in first])


def row_after(row, rows):
    """Return the row that results if another effect with these rows follows."""
    later = None if row is None else rows[end_of_row(row)]
    if later is None:
        return None
    kept, word = row
    later_kept, later_word = later
    if later_kept <= len(word):
        return (0, ending(word, later_kept) + later_word)
    return (later_kept - len(word), word + later_word)


def end_of_row(row):
    """Return the length to which a row leads."""
    kept, word = row
    return kept + len(word)


def result_of_row(row, queue):
    """Return the result for a queue of the length that the row is for, or None."""
    if row is None:
        return None
    kept, word = row
    return ending(queue, kept) + word


def power_rows(rows, exponent):
    """Return the rows of an effect that is repeated, by squaring."""
    power = identity_rows(len(rows) - 1)
    for bit in f"{exponent:b}":
        power = product_rows(power, power)
        if bit == "1":
            power = product_rows(power, rows)
    return power
