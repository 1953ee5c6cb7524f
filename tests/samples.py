"""Values and slow, plain reference computations that the tests share."""

import random
import re

# Values that are no strings; functions that ask for strings must reject them.
OTHER_KINDS = (
    None, True, False, 0, 1, -1, 10 ** 30, b"", b"a", b"a-", (), ("a",), [], ["a"], {}, {"a": 1}, {"a"},
    frozenset(), object(), str, len, range(3),
)

NO_INTEGERS = (None, True, False, "", "1", b"1", (), (1,), [], [1], {}, set(), object(), int)

HUGE = 10 ** 30


def random_program(source, letters="abc", depth=3, most_count=3):
    """Return a program with nested repetitions that is not long when it is written out."""
    parts = []
    for _ in range(source.randrange(4)):
        if depth > 0 and source.random() < 0.5:
            body = random_program(source, letters, depth - 1, most_count)
            parts.append(f"({body}){source.randint(0, most_count)}")
        else:
            parts.append(source.choice(letters + "--"))
    return "".join(parts)


def random_programs(many, seed=1, **settings):
    source = random.Random(seed)
    return [random_program(source, **settings) for _ in range(many)]


def nest(depth, inner="a", count=1):
    return "(" * depth + inner + f"){count}" * depth


def expand(program):
    """Write out a program by replacing innermost repetitions one after the other."""
    innermost = re.compile(r"\(([a-z-]*)\)([0-9]+)")
    while "(" in program:
        program = innermost.sub(lambda found: found[1] * int(found[2]), program, count=1)
    return program


def accepts(text):
    """Tell whether a text is a program by taking away all innermost repetitions at once, 20 times."""
    def taken_away(found):
        return "-" if int(found[1]) <= HUGE else found[0]

    for _ in range(20):
        text = re.sub(r"\([a-z-]*\)(0(?![0-9])|[1-9][0-9]*)", taken_away, text)
    return re.fullmatch(r"[a-z-]*", text) is not None


def mutations(text, source, signs="ab-()0129 "):
    """Yield texts with one character too many, too few or changed."""
    for at in range(len(text) + 1):
        yield text[:at] + source.choice(signs) + text[at:]
    for at in range(len(text)):
        yield text[:at] + text[at + 1:]
        yield text[:at] + source.choice(signs) + text[at + 1:]
