"""The effects of programs."""

from fullqueue.checks import check_capacity, check_mode
from fullqueue.effects import Effect
from fullqueue.lengths import end_of, succeeds
from fullqueue.profiles import Profile
from fullqueue.programs import TAKE, ending, last_letters, parts_of
from fullqueue.rows import identity_rows, power_rows, product_rows


def effect_of(program, capacity, mode):
    """Return the effect of a program."""
    parts = parts_of(program)
    check_capacity(capacity)
    check_mode(mode)
    return Effect(capacity, program_rows(parts, Profile.of(program), capacity, mode))


def program_rows(parts, profile, capacity, mode):
    """Return the rows of a program, given its parts and its profile."""
    if mode == "newest":
        return newest_rows(parts, capacity)
    letters = last_letters(parts, capacity)
    return tuple([
        all_put_row(profile, letters, capacity, length) if succeeds(profile, capacity, mode, length) else None
        for length in range(capacity + 1)
    ])


def all_put_row(profile, letters, capacity, length):
    """Return the row of a program none of whose puts is ignored, given the last letters that it puts."""
    # The result is the end of the queue followed by all letters put.
    end = end_of(profile, capacity, length)
    if end <= profile.puts:
        return (0, ending(letters, end))
    return (end - profile.puts, letters)


def newest_rows(parts, capacity):
    """Return the rows of parts of a program in mode newest."""
    # Which puts are ignored depends on the start length, so that the effects must be multiplied.
    rows = identity_rows(capacity)
    for part in parts:
        rows = product_rows(rows, newest_part_rows(part, capacity))
    return rows


def newest_part_rows(part, capacity):
    if isinstance(part, str):
        return [newest_row(part, capacity, length) for length in range(capacity + 1)]
    body, count = part
    # All higher powers are equal: after at most C rounds the length stays the same or the
    # program fails, and after at most C more rounds that put letters only these are left.
    return power_rows(newest_rows(body, capacity), min(count, 2 * capacity + 2))


def newest_row(sequence, capacity, length):
    """Return the row of a sequence in mode newest for a start length."""
    kept = length
    word = ""
    for step in sequence:
        if step != TAKE:
            word = word + step if kept + len(word) < capacity else word
        elif kept > 0:
            kept -= 1
        elif word != "":
            word = word[1:]
        else:
            return None
    return (kept, word)
