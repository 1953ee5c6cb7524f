"""Puts whose letters have no effect, and neighbouring steps whose order has none."""

from fullqueue.checks import check_capacity, check_mode
from fullqueue.errors import LimitExceeded
from fullqueue.programs import TAKE, check_sequence
from fullqueue.rows import identity_rows, product_rows
from fullqueue.running import effect_of

MOST_STEPS_COMPARED = 200


def unseen_puts(sequence, capacity, mode):
    """Return the indices of the puts whose letters can be replaced without changing the effect."""
    check_arguments(sequence, capacity, mode)
    # If one other letter changes nothing, then the letter is never left, and none changes anything.
    replacements = [
        (index, "b" if step == "a" else "a") for index, step in enumerate(sequence) if step != TAKE
    ]
    return without_effect(replacements, sequence, capacity, mode)


def exchangeable(sequence, capacity, mode):
    """Return the indices of the steps that can be exchanged with the next one without changing the effect."""
    check_arguments(sequence, capacity, mode)
    replacements = [(index, sequence[index + 1] + sequence[index]) for index in range(len(sequence) - 1)]
    return without_effect(replacements, sequence, capacity, mode)


def check_arguments(sequence, capacity, mode):
    check_sequence(sequence)
    check_capacity(capacity)
    check_mode(mode)
    if len(sequence) > MOST_STEPS_COMPARED:
        raise LimitExceeded(len(sequence))


def without_effect(replacements, sequence, capacity, mode):
    """Return the indices of those replacements (index, steps) that do not change the effect."""
    steps_rows = [effect_of(step, capacity, mode).rows for step in sequence]
    before = rows_before(steps_rows, capacity)
    after = rows_from(steps_rows, capacity)
    indices = []
    for index, steps in replacements:
        changed = product_rows(before[index], effect_of(steps, capacity, mode).rows)
        if product_rows(changed, after[index + len(steps)]) == after[0]:
            indices.append(index)
    return indices


def rows_before(steps_rows, capacity):
    """Return the rows of the steps before each index."""
    before = [identity_rows(capacity)]
    for rows in steps_rows:
        before.append(product_rows(before[-1], rows))
    return before


def rows_from(steps_rows, capacity):
    """Return the rows of the steps from each index on."""
    after = [identity_rows(capacity)]
    for rows in steps_rows[::-1]:
        after.append(product_rows(rows, after[-1]))
    return after[::-1]
