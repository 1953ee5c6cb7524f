"""Values and slow, plain reference computations that the tests share."""

import itertools
import random
import re

# Values that are no strings; functions that ask for strings must reject them.
OTHER_KINDS = (
    None, True, False, 0, 1, -1, 10 ** 30, b"", b"a", b"a-", (), ("a",), [], ["a"], {}, {"a": 1}, {"a"},
    frozenset(), object(), str, len, range(3),
)

NO_INTEGERS = (None, True, False, "", "1", b"1", (), (1,), [], [1], {}, set(), object(), int)

HUGE = 10 ** 30

MODES = ("oldest", "newest", "strict")

NO_CAPACITIES = (0, -1, 101, HUGE, "a") + NO_INTEGERS

NO_MODES = ("", "old", "Oldest", "oldest ", "oldestnewest") + OTHER_KINDS + (["oldest"], ("oldest",))

NO_LENGTHS = (-1, -HUGE, "a") + NO_INTEGERS


def nest(depth, inner="a", count=1):
    return "(" * depth + inner + f"){count}" * depth


PROGRAMS = (
    "", "a", "z", "-", "a-", "()0", "()1", "(a)0", "(a)1", "(a)10", "(a)2b", "a(b-)2", "((a)2(-)3)4", "(a)2(b)3",
    f"(a){HUGE}", f"(){HUGE}", f"(a){HUGE - 1}", nest(20), nest(20, "", 0), nest(20, "ab-", HUGE), "a" * 4000,
    "(a)0" * 1000,
)

NO_PROGRAMS = (
    " ", "A", "a ", " a", "a\n", "\n", "a b", "2", "a2", "2a", "(", ")", "()", "(a)", "a)", "a)2", "(a", "((a)2",
    "(a)2)3", ")(", ")2(", ")a(2", "(a)00", "(a)01", "(a)02b", "(a)-1", "(a)+1", "(a) 1", "(a)1 ", "(a)1_0", "(a)a",
    "(a)(b)2", "((a)2)", "(2)2", "()2()", "[a]2", "(a)2.", "(a)1.0", f"(a){HUGE + 1}", f"(a){HUGE}0", f"(a)0{HUGE}",
    "(a)" + "9" * 31, "(a)" + "9" * 5000, "(a)" + "0" * 31, "(a)\u0662", "\xe4", "(\uff41)2", "(a)\xb2", nest(21),
    nest(21, "", 0), nest(22), "b" + nest(21) + "c", "a" * 3999 + "A",
)


def random_program(source, letters="abc", depth=3, most_count=3):
    """Return a program with nested repetitions that is not long when it is written out."""
    parts = []
    for _ in range(source.randrange(4)):
        if depth > 0 and source.random() < 0.5:
            body = random_program(source, letters, depth - 1, most_count)
            parts.append(f"({body}){source.randint(0, most_count)}")
        else:
            parts.append(source.choice(letters + "--"))
    return "".join(parts)


def random_programs(many, seed=1, **settings):
    source = random.Random(seed)
    return [random_program(source, **settings) for _ in range(many)]


def expand(program):
    """Write out a program by replacing innermost repetitions one after the other."""
    innermost = re.compile(r"\(([a-z-]*)\)([0-9]+)")
    while "(" in program:
        program = innermost.sub(lambda found: found[1] * int(found[2]), program, count=1)
    return program


def accepts(text):
    """Tell whether a text is a program by taking away all innermost repetitions at once, 20 times."""
    def taken_away(found):
        return "-" if int(found[1]) <= HUGE else found[0]

    for _ in range(20):
        text = re.sub(r"\([a-z-]*\)(0(?![0-9])|[1-9][0-9]*)", taken_away, text)
    return re.fullmatch(r"[a-z-]*", text) is not None


def mutations(text, source, signs="ab-()0129 "):
    """Yield texts with one character too many, too few or changed."""
    for at in range(len(text) + 1):
        yield text[:at] + source.choice(signs) + text[at:]
    for at in range(len(text)):
        yield text[:at] + text[at + 1:]
        yield text[:at] + source.choice(signs) + text[at + 1:]


def simulate(sequence, capacity, mode, queue):
    """Do steps one by one; return the queue, the letters taken and the letters lost, or the index of the failed step."""
    letters, taken, lost = list(queue), [], []
    for at, step in enumerate(sequence):
        if step == "-":
            if not letters:
                return at
            taken.append(letters.pop(0))
        elif len(letters) < capacity:
            letters.append(step)
        elif mode == "oldest":
            lost.append(letters.pop(0))
            letters.append(step)
        elif mode == "newest":
            lost.append(step)
        else:
            return at
    return "".join(letters), "".join(taken), "".join(lost)


def queues(capacity, letters="xy"):
    """Yield all queues of a capacity."""
    for length in range(capacity + 1):
        for word in itertools.product(letters, repeat=length):
            yield "".join(word)


def sequences(most, steps="a-"):
    """Yield all sequences of at most so many steps."""
    yield from queues(most, steps)


def different_letters(length):
    """Return a queue whose letters are different as long as there are enough of them."""
    return ("zyxwvutsrqponmlkjihgfedcba" * 4)[:length]


def assert_errors_in_order(test, call, arguments):
    """Check that each wrong argument is rejected with its error, whatever the later arguments are.

    The arguments are tuples of a name, a right value, wrong values and their error.
    """
    for at, (_, _, wrong, error) in enumerate(arguments):
        for value in wrong:
            for later_ones_are_wrong in (False, True):
                values = {name: good for name, good, _, _ in arguments}
                if later_ones_are_wrong:
                    values.update({name: bad[0] for name, _, bad, _ in arguments[at + 1:]})
                values[arguments[at][0]] = value
                for run in (lambda: call(**values), lambda: call(*values.values())):
                    with test.assertRaises(error, msg=f"{values}") as caught:
                        run()
                    test.assertIs(type(caught.exception), error, values)
