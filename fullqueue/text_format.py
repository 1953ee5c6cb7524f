"""Effects as text."""

from fullqueue.effects import Effect, check_effect
from fullqueue.errors import InvalidEffect, InvalidText
from fullqueue.integers import read_integer
from fullqueue.letters import is_capacity

FAILING = "."


def format_effect(effect):
    """Return the rows of an effect, separated by spaces."""
    check_effect(effect)
    return " ".join([format_row(row) for row in effect.rows])


def format_row(row):
    if row is None:
        return FAILING
    kept, word = row
    return f"{kept}:{word}"


def parse_effect(text):
    """Return the effect that a text tells; raise InvalidText for all other values."""
    words = text.split(" ") if isinstance(text, str) else []
    capacity = len(words) - 1
    if not is_capacity(capacity):
        raise InvalidText("an effect has from 2 to 101 rows")
    rows = [parse_row(word) for word in words]
    try:
        return Effect(capacity, rows)
    except InvalidEffect:
        raise InvalidText("a row is not valid for its start length") from None


def parse_row(text):
    if text == FAILING:
        return None
    digits, colon, word = text.partition(":")
    kept = read_integer(digits)
    if kept is None or colon == "":
        raise InvalidText("a row is a point, or a number, a colon and letters")
    return (kept, word)
