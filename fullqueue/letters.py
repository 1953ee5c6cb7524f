"""Letters, capacities, queues, modes and users."""

from fullqueue.errors import InvalidCapacity
from fullqueue.integers import is_int_between

LETTERS = "abcdefghijklmnopqrstuvwxyz"
MODES = ("oldest", "newest", "strict")
MOST_CAPACITY = 100
LONGEST_USER = 8


def is_letter(value):
    return has_letters_only(value) and len(value) == 1


def is_capacity(value):
    return is_int_between(value, 1, MOST_CAPACITY)


def is_mode(value):
    return isinstance(value, str) and value in MODES


def is_user(value):
    return has_letters_only(value) and 1 <= len(value) <= LONGEST_USER


def is_queue(value, capacity=MOST_CAPACITY):
    """Return whether a value is a queue of the capacity."""
    if not is_capacity(capacity):
        raise InvalidCapacity("a capacity is an integer from 1 to 100")
    return has_letters_only(value) and len(value) <= capacity


def has_letters_only(value):
    """Return whether a value is a string of letters, possibly of none."""
    # Stripping stops at the first other character, so that something is left.
    return isinstance(value, str) and value.strip(LETTERS) == ""
