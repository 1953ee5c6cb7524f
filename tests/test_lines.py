import itertools
import random
import unittest

from fullqueue.errors import EmptyQueue, InvalidCapacity, InvalidInteger, InvalidProgram, LimitExceeded
from fullqueue.lines import Line
from fullqueue.programs import count_steps, last_puts
from tests.samples import (
    HUGE, NO_CAPACITIES, NO_INTEGERS, NO_PROGRAMS, OTHER_KINDS, expand, nest, random_programs, sequences,
)


class SlowLine:
    """A line whose steps are done one by one; a letter goes from buffer to buffer."""

    def __init__(self, *capacities):
        self.capacities = capacities
        self.queues = [[] for _ in capacities]
        self.gone = 0

    def run(self, sequence):
        """Return whether the steps succeed; otherwise nothing changes."""
        queues, gone = [list(queue) for queue in self.queues], self.gone
        for step in sequence:
            if step != "-":
                self.put(0, step)
            elif self.queues[0]:
                self.put(1, self.queues[0].pop(0))
            else:
                self.queues, self.gone = queues, gone
                return False
        return True

    def put(self, at, letter):
        if at == len(self.queues):
            self.gone += 1
        else:
            if len(self.queues[at]) == self.capacities[at]:
                self.put(at + 1, self.queues[at].pop(0))
            self.queues[at].append(letter)

    @property
    def contents(self):
        return tuple("".join(queue) for queue in self.queues)


class LineTest(unittest.TestCase):
    def assert_run(self, line, slow, program):
        if slow.run(expand(program)):
            self.assertIsNone(line.run(program))
        else:
            with self.assertRaises(EmptyQueue) as caught:
                line.run(program)
            self.assertIs(type(caught.exception), EmptyQueue)
        self.assertEqual((line.contents, line.gone), (slow.contents, slow.gone), (slow.capacities, program))

    def test_example(self):
        line = Line(2, 3)
        line.run("(ab)2c")
        self.assertEqual(line.contents, ("bc", "aba"))
        self.assertEqual(line.gone, 0)

    def test_a_new_line(self):
        for many in range(1, 9):
            line = Line(*range(1, many + 1))
            self.assertEqual(line.contents, ("",) * many)
            self.assertEqual(line.gone, 0)
            self.assertIs(type(line.gone), int)
            self.assertEqual(len(line), many)

    def test_kinds_of_results(self):
        line = Line(1, 2)
        line.run("abc-")
        self.assertIs(type(line.contents), tuple)
        self.assertEqual(line.contents, ("", "bc"))
        self.assertEqual(line.gone, 1)
        self.assertIsNone(line.run(""))
        self.assertEqual((line[0], line[1]), ("", "bc"))
        for name in ("contents", "gone"):
            self.assertIsInstance(vars(Line)[name], property)
            with self.assertRaises(AttributeError):
                setattr(line, name, 1)

    def test_every_short_sequence(self):
        for sequence in sequences(6, "ab-"):
            for capacities in ((1,), (2,), (1, 1), (2, 1), (1, 2, 1)):
                self.assert_run(Line(*capacities), SlowLine(*capacities), sequence)

    def test_several_runs(self):
        for capacities in itertools.product((1, 2, 3), repeat=2):
            for first, second in itertools.product(sequences(3, "ab-"), repeat=2):
                line, slow = Line(*capacities), SlowLine(*capacities)
                self.assert_run(line, slow, first)
                self.assert_run(line, slow, second)

    def test_random_programs_one_after_the_other(self):
        source = random.Random(111)
        programs = random_programs(300, seed=112, most_count=5)
        for many in (1, 2, 3, 5, 8) * 8:
            capacities = [source.choice((1, 2, 3, 7, 20)) for _ in range(many)]
            line, slow = Line(*capacities), SlowLine(*capacities)
            for program in source.sample(programs, 30):
                self.assert_run(line, slow, program)

    def test_one_buffer_and_eight_buffers_of_the_limits(self):
        alphabet = "abcdefghijklmnopqrstuvwxyz"
        for capacities in ((1,), (100,), (1,) * 8, (100,) * 8, (100, 1) * 4, (1, 100) * 4):
            line, slow = Line(*capacities), SlowLine(*capacities)
            for program in (f"({alphabet})3", "-", f"({alphabet})40xyz", "-" * 100, "(ab-)60", "", "()5", "(xyz--)400", "-" * 100):
                self.assert_run(line, slow, program)

    def test_a_failed_program_changes_nothing(self):
        line = Line(2, 2)
        line.run("abcd")
        for program in ("---", "xy---", "x(-)3", "(-)3y", f"(xyz-){HUGE}(-)2", f"(-){HUGE}", nest(20, "a--", HUGE), "-" * 4000):
            with self.assertRaises(EmptyQueue):
                line.run(program)
            self.assertEqual((line.contents, line.gone), (("cd", "ab"), 0))
        line.run("--")
        with self.assertRaises(EmptyQueue):
            line.run("-")
        self.assertEqual((line.contents, line.gone), (("", "cd"), 2))

    def test_a_take_finds_the_other_buffers_empty(self):
        line = Line(1, 1, 1)
        line.run("a-")
        self.assertEqual(line.contents, ("", "a", ""))
        with self.assertRaises(EmptyQueue):
            line.run("-")
        line.run("b-c")
        self.assertEqual((line.contents, line.gone), (("c", "b", "a"), 0))


class LargeCountsTest(unittest.TestCase):
    def assert_large(self, program, capacities, contents, gone):
        line = Line(*capacities)
        line.run(program)
        self.assertEqual(line.contents, contents)
        self.assertEqual(line.gone, gone)

    def test_large_counts(self):
        for program, capacities, contents, gone in (
            (f"(ab){HUGE}", (3, 2), ("bab", "ba"), 2 * HUGE - 5),
            (f"(ab-){HUGE}", (3, 2), ("ab", "ab"), 2 * HUGE - 4),
            (f"(ab){HUGE}(-)3", (3, 2), ("", "ab"), 2 * HUGE - 2),
            (f"(a-){HUGE}", (1, 1, 1), ("", "a", "a"), HUGE - 2),
            (f"((ab-){HUGE}--){HUGE}c", (3,), ("c",), 2 * HUGE ** 2),
            (f"(abc){HUGE}", (1,) * 8, tuple("cbacbacb"), 3 * HUGE - 8),
            (nest(20, "ab", HUGE), (1, 2), ("b", "ba"), 2 * HUGE ** 20 - 3),
            (nest(20, "ab-", HUGE), (3, 1), ("ab", "b"), 2 * HUGE ** 20 - 3),
            (f"(a){HUGE}(b){HUGE}", (100, 100), ("b" * 100,) * 2, 2 * HUGE - 200),
            (f"(){HUGE}", (5, 5), ("", ""), 0), ("(ab)0c", (5, 5), ("c", ""), 0), (f"((a){HUGE})0", (1,), ("",), 0),
            ("(abc)10(-)5(d)0", (5, 5), ("", "bcabc"), 25),
        ):
            self.assert_large(program, capacities, contents, gone)

    def test_counts_0_and_10_to_the_30(self):
        line = Line(2, 2)
        line.run("(ab)0")
        self.assertEqual((line.contents, line.gone), (("", ""), 0))
        line.run(f"(ab){HUGE}")
        self.assertEqual((line.contents, line.gone), (("ab", "ab"), 2 * HUGE - 4))
        line.run(f"(c-){HUGE}")
        self.assertEqual((line.contents, line.gone), (("c", "cc"), 3 * HUGE - 3))
        line.run("(-)0(-)0x")
        self.assertEqual((line.contents, line.gone), (("cx", "cc"), 3 * HUGE - 3))

    def test_smaller_counts_that_leave_the_same_letters(self):
        for program in (
            f"(ab-){HUGE}", f"(abc){HUGE}-", f"((ab-){HUGE}-){HUGE}", f"x(yz-){HUGE}(-)2w", f"(abc--){HUGE}-d", f"(ab){HUGE}(c--d){HUGE}",
            f"((a){HUGE}(-)2b){HUGE}", f"(a-){HUGE}(b){HUGE}(-)3", nest(3, "ab-", HUGE), nest(2, "abc-", HUGE) + "--",
        ):
            # The letters are the same as after many fewer rounds; one round more or less must not matter.
            small = program.replace(str(HUGE), "36")
            for capacities in ((3,), (3, 4), (4, 3, 2), (3, 1, 1, 5, 2), (3,) * 8):
                line, slow = Line(*capacities), SlowLine(*capacities)
                line.run(program)
                self.assertTrue(slow.run(expand(small)))
                self.assertEqual(line.contents, slow.contents, program)
                kept = sum(len(queue) for queue in line.contents)
                self.assertEqual(line.gone, puts_of(program) - kept, program)

    def test_letters_pass_the_line_in_order(self):
        for program in random_programs(60, seed=113) + [f"(abc){HUGE}x", f"((abcd-){HUGE}y){HUGE}", nest(20, "abcdefgh-", HUGE)]:
            for capacities in ((100,) * 8, (5, 100, 1, 7), (6, 6)):
                line = Line(*capacities)
                try:
                    line.run(program)
                except EmptyQueue:
                    continue
                together = "".join(line.contents[::-1])
                # All but those that are gone are the last puts, the first ones in the last buffer.
                self.assertEqual(together, last_puts(program, len(together)))
                for front, behind, capacity in zip(line.contents[1:], line.contents[2:], capacities[1:]):
                    self.assertTrue(len(front) == capacity or behind == "")
                self.assertEqual(line.gone, puts_of(program) - len(together))


def puts_of(program):
    """The number of puts: that of steps, without the takes."""
    return count_steps(program.replace("-", ""))


class IndexTest(unittest.TestCase):
    def test_indices(self):
        line = Line(2, 1, 3)
        line.run("abcdef")
        self.assertEqual([line[at] for at in range(3)], ["ef", "d", "abc"])
        self.assertEqual(len(line), 3)

    def test_other_values(self):
        for many in (1, 3, 8):
            line = Line(*[2] * many)
            for value in (many, many + 1, -1, -many, HUGE, -HUGE, "a", slice(0, 1), slice(None)) + NO_INTEGERS:
                with self.assertRaises(InvalidInteger):
                    line[value]

    def test_no_iteration(self):
        with self.assertRaises(TypeError):
            iter(Line(2, 3))


class CreationTest(unittest.TestCase):
    def test_capacities(self):
        for value in NO_CAPACITIES:
            for capacities in ((value,), (2, value), (value, 2), (2,) * 8 + (value,), (value,) * 9, (1,) * 7 + (value,)):
                with self.assertRaises(InvalidCapacity):
                    Line(*capacities)

    def test_numbers_of_buffers(self):
        for many in (0, 9, 10, 100):
            with self.assertRaises(LimitExceeded) as caught:
                Line(*[3] * many)
            self.assertEqual(caught.exception.size, many)


class ArgumentsTest(unittest.TestCase):
    def test_programs(self):
        line = Line(2, 2)
        line.run("abc")
        for value in NO_PROGRAMS + OTHER_KINDS:
            with self.assertRaises(InvalidProgram):
                line.run(value)
            self.assertEqual((line.contents, line.gone), (("bc", "a"), 0))

    def test_arguments_by_name(self):
        line = Line(2)
        line.run(program="ab")
        self.assertEqual(line.contents, ("ab",))

    def test_lines_are_independent(self):
        one, other = Line(2, 2), Line(2, 2)
        before = one.contents
        one.run("abc")
        self.assertEqual((before, other.contents, other.gone), (("", ""), ("", ""), 0))
        self.assertEqual(one.contents, ("bc", "a"))


if __name__ == "__main__":
    unittest.main()
