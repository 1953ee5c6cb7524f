"""Checks of arguments: each raises the error for a value that is not of its kind."""

from fullqueue.errors import InvalidCapacity, InvalidInteger, InvalidLetter, InvalidMode, InvalidQueue, InvalidUser
from fullqueue.integers import is_int_between, is_natural
from fullqueue.letters import is_capacity, is_letter, is_mode, is_queue, is_user


def check_letter(value):
    if not is_letter(value):
        raise InvalidLetter("a letter is one of a to z")


def check_capacity(value):
    if not is_capacity(value):
        raise InvalidCapacity("a capacity is an integer from 1 to 100")


def check_mode(value):
    if not is_mode(value):
        raise InvalidMode("a mode is oldest, newest or strict")


def check_queue(value, capacity):
    if not is_queue(value, capacity):
        raise InvalidQueue("a queue is a string of at most as many letters as the capacity")


def check_user(value):
    if not is_user(value):
        raise InvalidUser("a user is a string of 1 to 8 letters")


def check_length(value, capacity):
    if not is_int_between(value, 0, capacity):
        raise InvalidInteger("a length is an integer from 0 to the capacity")


def check_any_length(value):
    """Check a length where there is no capacity."""
    if not is_natural(value):
        raise InvalidInteger("a length is an integer from 0 on")
