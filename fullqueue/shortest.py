"""Shortest sequences with a given effect."""

from fullqueue.effects import check_effect
from fullqueue.errors import InvalidMode
from fullqueue.letters import is_mode
from fullqueue.programs import TAKE
from fullqueue.running import effect_of

# The letter of puts whose letters have no effect.
UNSEEN = "a"


def shortest_sequence(effect, mode):
    """Return a shortest sequence with an effect, or None if no sequence has it."""
    check_effect(effect)
    if not is_mode(mode) or mode == "newest":
        raise InvalidMode("the mode is oldest or strict")
    sequence = only_candidate(effect)
    # The candidate is made of few numbers of the effect, so that its other rows may differ.
    return sequence if effect_of(sequence, effect.capacity, mode) == effect else None


def only_candidate(effect):
    """Return a sequence that is a shortest one with the effect if any sequence has it.

    The effect of a sequence depends on its lowest, highest and last offset, on its fall, which must
    not be greater than the capacity, and on its last puts. These numbers follow from the first and
    the last row that is not None. Only if in mode oldest all end lengths are equal, the highest and
    the last offset could both be higher by the same number, but then there would be more steps.
    """
    lengths = list(effect.lengths())
    if len(lengths) == 0:
        return TAKE * (effect.capacity + 1)
    least, first_end = lengths[0]
    greatest, last_end = lengths[-1]
    _, word = effect[greatest]
    # Queues of the greatest length are full when the offset is highest, whatever the mode is.
    final_fall = effect.capacity - last_end
    high = first_end - least + final_fall
    if first_end < least:
        # It takes fewer steps to reach the highest offset before the lowest one, -least. The fall
        # between them is not greater than the capacity, as longer queues do not end shorter.
        to_lowest = UNSEEN * high + TAKE * (high + least)
        from_lowest = UNSEEN * first_end
    else:
        to_lowest = TAKE * least
        from_lowest = UNSEEN * (least + high) + TAKE * final_fall
    # The letters that are left must have been put. More puts than necessary are taken at once, at
    # the lowest offset, where this changes neither the highest offset nor the fall.
    missing = len(word) - (to_lowest + from_lowest).count(UNSEEN)
    return with_last_puts(to_lowest + (UNSEEN + TAKE) * missing + from_lowest, word)


def with_last_puts(sequence, word):
    """Return a sequence whose last puts put the letters of a word instead."""
    steps = []
    left = len(word)
    for step in sequence[::-1]:
        if step != TAKE and left > 0:
            left -= 1
            steps.append(word[left])
        else:
            steps.append(step)
    return "".join(steps[::-1])
