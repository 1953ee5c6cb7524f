"""Programs: sequences of steps in which parts are repeated.

Inside of the package a program is a list of parts. A part is a sequence of
at least one step, or a tuple (parts, count) for a repetition.
"""

from fullqueue.errors import InvalidInteger, InvalidProgram, LimitExceeded
from fullqueue.integers import DIGITS, is_int_between, read_integer

TAKE = "-"
STEPS = "abcdefghijklmnopqrstuvwxyz-"
MOST_COUNT = 10 ** 30
MOST_DEPTH = 20
MOST_STEPS = 4000


def is_program(value):
    return isinstance(value, str) and read_parts(value) is not None


def is_sequence(value):
    """Return whether a value is a program without repetitions."""
    return isinstance(value, str) and value.strip(STEPS) == ""


def is_count(value):
    """Return whether a value is a number of repetitions."""
    return is_int_between(value, 0, MOST_COUNT)


def check_count(value):
    if not is_count(value):
        raise InvalidInteger("a count is an integer from 0 to 10 ** 30")


def check_program(value):
    if not is_program(value):
        raise InvalidProgram("this is not a program")


def check_sequence(value):
    if not is_sequence(value):
        raise InvalidProgram("this is not a sequence")


def count_steps(program):
    """Return the number of steps of the written out program."""
    return count_part_steps(parts_of(program))


def write_out(program):
    """Return the sequence that a program stands for."""
    parts = parts_of(program)
    size = count_part_steps(parts)
    if size > MOST_STEPS:
        raise LimitExceeded(size)
    return write_parts(parts)


def last_puts(program, count):
    """Return the last count letters that a program puts, in order."""
    parts = parts_of(program)
    if not is_int_between(count, 0, MOST_STEPS):
        raise InvalidInteger("the number of letters is an integer from 0 to 4000")
    return last_letters(parts, count)


def repeat(program, count):
    """Return the program (program)count."""
    parts = parts_of(program)
    check_count(count)
    depth = depth_of(parts) + 1
    if depth > MOST_DEPTH:
        raise LimitExceeded(depth)
    return f"({program}){count}"


def parts_of(program):
    """Return the parts of a program; raise InvalidProgram for any other value."""
    parts = read_parts(program) if isinstance(program, str) else None
    if parts is None:
        raise InvalidProgram("this is not a program")
    return parts


def read_parts(text):
    """Return the parts of a program, or None if the text is not a program."""
    outer = []
    parts = []
    at = 0
    while at < len(text):
        if text[at] == "(":
            outer.append(parts)
            parts = []
            end = at + 1
        elif text[at] == ")":
            end = end_of_run(text, at + 1, DIGITS)
            count = read_integer(text[at + 1:end])
            if not is_count(count) or len(outer) == 0:
                return None
            repetition = (parts, count)
            parts = outer.pop()
            parts.append(repetition)
        else:
            end = end_of_run(text, at, STEPS)
            parts.append(text[at:end])
        if end == at or len(outer) > MOST_DEPTH:
            return None
        at = end
    return parts if len(outer) == 0 else None


def end_of_run(text, start, signs):
    """Return the index of the first character from start on that is not among the signs."""
    end = start
    while end < len(text) and text[end] in signs:
        end += 1
    return end


def depth_of(parts):
    """Return how deep the repetitions are nested."""
    depth = 0
    for part in parts:
        if not isinstance(part, str):
            body, _ = part
            depth = max(depth, depth_of(body) + 1)
    return depth


def count_part_steps(parts):
    size = 0
    for part in parts:
        if isinstance(part, str):
            size += len(part)
        else:
            body, count = part
            size += count_part_steps(body) * count
    return size


def write_parts(parts):
    """Return the sequence of parts, which must be known to be short."""
    return "".join([write_part(part) for part in parts])


def write_part(part):
    if isinstance(part, str):
        return part
    body, count = part
    # What is repeated 0 times may be too long to be written.
    steps = write_parts(body) if count > 0 else ""
    # The empty string cannot be multiplied by a count beyond the sizes of strings.
    return steps * count if steps != "" else ""


def last_letters(parts, most):
    """Return the last letters that are put by the parts, at most most of them."""
    found = ""
    for part in parts[::-1]:
        found = last_letters_of_part(part, most - len(found)) + found
    return found


def last_letters_of_part(part, most):
    if isinstance(part, str):
        return ending(part.replace(TAKE, ""), most)
    body, count = part
    letters = last_letters(body, most)
    if letters == "":
        return ""
    # If one round puts fewer than most letters, these are all that it puts.
    rounds = min(count, -(-most // len(letters)))
    return ending(letters * rounds, most)


def ending(text, most):
    """Return the last characters of a text, at most most of them."""
    return text[max(0, len(text) - most):]
