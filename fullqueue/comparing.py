"""Queues that tell effects apart, exponents from which on powers are equal, and generated effects."""

from fullqueue.effects import Effect, check_effect, check_same_capacity
from fullqueue.errors import InvalidEffect, InvalidInteger, LimitExceeded
from fullqueue.integers import is_int_between
from fullqueue.rows import identity_rows, product_rows, result_of_row

MOST_GENERATED = 2000


def separating_queue(one, other):
    """Return a shortest queue for which the results of two effects differ, or None if they are equal."""
    check_effect(one)
    check_effect(other)
    check_same_capacity(one, other)
    for length in range(one.capacity + 1):
        if one[length] != other[length]:
            return queue_between(length, one[length], other[length])
    return None


def queue_between(length, row, other_row):
    """Return a queue of a length for which the results of two different rows differ."""
    # Where one row keeps more letters than the other one, the result of the other one has a letter
    # of its own, which cannot be both a and b.
    queue = "a" * length
    if result_of_row(row, queue) != result_of_row(other_row, queue):
        return queue
    return "b" * length


def settling(effect):
    """Return the least exponent from which on all powers are equal, or None."""
    check_effect(effect)
    power = identity_rows(effect.capacity)
    # If the length ever stays the same or the effect fails, this takes at most C rounds, or C + 1 to
    # fail. After at most C more rounds that put letters only letters of the last rounds are left.
    for exponent in range(2 * effect.capacity + 1):
        following = product_rows(power, effect.rows)
        if following == power:
            return exponent
        power = following
    return None


def generated(*effects, most=1000):
    """Return the tuples (effect, indices) for the identity and all products of the effects."""
    check_generators(effects)
    if not is_int_between(most, 1, MOST_GENERATED):
        raise InvalidInteger("the greatest number of effects is an integer from 1 to 2000")
    capacity = effects[0].capacity
    found = generated_rows(identity_rows(capacity), least_indices(effects), most)
    return [(Effect(capacity, rows), indices) for rows, indices in found.items()]


def check_generators(effects):
    if len(effects) == 0:
        raise InvalidEffect(None)
    for index, effect in enumerate(effects):
        if not isinstance(effect, Effect):
            raise InvalidEffect(index)
    for effect in effects:
        check_same_capacity(effects[0], effect)


def least_indices(effects):
    """Return the least index of each of the different effects, by their rows."""
    indices = {}
    for index, effect in enumerate(effects):
        indices.setdefault(effect.rows, index)
    return indices


def generated_rows(identity, generators, most):
    """Return the indices of each product of generators, by its rows, in the order of the indices."""
    found = {identity: ()}
    waiting = [identity]
    done = 0
    # A least shortest tuple without its last index is a least shortest tuple, too. So each product
    # is found first by its own one, as products are continued in the order in which they are found.
    while done < len(waiting):
        rows = waiting[done]
        done += 1
        for step, index in generators.items():
            following = product_rows(rows, step)
            if following not in found:
                if len(found) == most:
                    raise LimitExceeded(most)
                found[following] = found[rows] + (index,)
                waiting.append(following)
    return found
