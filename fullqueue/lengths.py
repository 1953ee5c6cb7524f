"""Lengths of queues before and after a program, and the capacities that it needs."""

from fullqueue.checks import check_any_length, check_capacity, check_length, check_mode
from fullqueue.profiles import Profile


def start_lengths(program, capacity, mode):
    """Return the least and the greatest length for which a program succeeds, or None."""
    profile = Profile.of(program)
    check_capacity(capacity)
    check_mode(mode)
    return start_bounds(profile, capacity, mode)


def end_length(program, capacity, mode, length):
    """Return the length after a program, or None if it fails."""
    profile = Profile.of(program)
    check_start(capacity, mode, length)
    if not succeeds(profile, capacity, mode, length):
        return None
    return end_of(profile, capacity, length)


def lost_letters(program, capacity, mode, length):
    """Return how many letters a program drops or ignores, or None if it fails."""
    profile = Profile.of(program)
    check_start(capacity, mode, length)
    if not succeeds(profile, capacity, mode, length):
        return None
    return max(0, length + profile.high - capacity)


def least_capacity(program, mode, length):
    """Return the least capacity with which a program succeeds, or None."""
    profile = Profile.of(program)
    check_mode(mode)
    check_any_length(length)
    if mode == "strict":
        return roomy_capacity(profile, length)
    return max(1, length, profile.fall) if length >= -profile.low else None


def lossless_capacity(program, length):
    """Return the least capacity with which a program succeeds and loses nothing, or None."""
    profile = Profile.of(program)
    check_any_length(length)
    return roomy_capacity(profile, length)


def check_start(capacity, mode, length):
    check_capacity(capacity)
    check_mode(mode)
    check_length(length, capacity)


def start_bounds(profile, capacity, mode):
    """Return the least and the greatest length for which programs of a profile succeed, or None."""
    least = -profile.low
    greatest = capacity - profile.high if mode == "strict" else capacity
    if profile.fall > capacity or least > greatest:
        return None
    return (least, greatest)


def succeeds(profile, capacity, mode, length):
    bounds = start_bounds(profile, capacity, mode)
    return bounds is not None and bounds[0] <= length <= bounds[1]


def end_of(profile, capacity, length):
    """Return the length after programs of a profile that succeed, in every mode."""
    # In mode strict the highest offset still fits in, so that the first number is the smaller one.
    return min(length + profile.offset, capacity + profile.offset - profile.high)


def roomy_capacity(profile, length):
    """Return the least capacity with which no put finds a full queue and no take an empty one, or None."""
    return max(1, length + profile.high) if length >= -profile.low else None
