"""Effects, and their results by the definition, that the tests share."""

import itertools

from fullqueue.effects import Effect
from tests.samples import OTHER_KINDS, queues

NO_EFFECTS = OTHER_KINDS + (Effect, ((0, ""), (1, "")), [(0, ""), (1, "")], "Effect(1, ((0, ''), (1, '')))", Effect.identity)


def all_rows(length, capacity, letters):
    """Return all rows for a start length."""
    words = list(queues(capacity, letters))
    return [None] + [(kept, word) for kept in range(length + 1) for word in words if kept + len(word) <= capacity]


def all_effects(capacity, letters="a"):
    choices = [all_rows(length, capacity, letters) for length in range(capacity + 1)]
    return [Effect(capacity, rows) for rows in itertools.product(*choices)]


def random_effect(source, capacity, letters="ab", failing=0.1):
    rows = []
    for length in range(capacity + 1):
        kept = source.randint(0, length)
        word = "".join(source.choices(letters, k=source.randint(0, capacity - kept)))
        rows.append(None if source.random() < failing else (kept, word))
    return Effect(capacity, rows)


def applied(effect, queue):
    """The result for a queue by the definition, or None if the effect fails."""
    row = effect.rows[len(queue)]
    if row is None:
        return None
    kept, word = row
    return queue[len(queue) - kept:] + word


def both(one, other, queue):
    middle = applied(one, queue)
    return None if middle is None else applied(other, middle)
