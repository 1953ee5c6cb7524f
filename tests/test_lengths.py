import random
import unittest

from fullqueue.errors import InvalidCapacity, InvalidInteger, InvalidMode, InvalidProgram
from fullqueue.lengths import end_length, least_capacity, lossless_capacity, lost_letters, start_lengths
from tests.samples import (
    HUGE, MODES, NO_CAPACITIES, NO_LENGTHS, NO_MODES, NO_PROGRAMS, OTHER_KINDS, accepts,
    assert_errors_in_order, different_letters, expand, mutations, nest, random_programs, sequences, simulate,
)

# Programs with large counts, some of which succeed in all modes.
LARGE = (
    f"(a-){HUGE}", f"(-a){HUGE}", f"(a){HUGE}", f"(-){HUGE}", f"(aa-){HUGE}", f"(a--){HUGE}", f"((aab--)3-a){HUGE}",
    f"(-(a-){HUGE}a){HUGE}", f"(aa-){HUGE}-----", f"-(a){HUGE}", f"---aaa(ab--){HUGE}", f"((a){HUGE}(-)3){HUGE}--",
    nest(20, "a-", HUGE), nest(20, "aa--aaa--", HUGE) + "---", f"((a){HUGE})0", f"(){HUGE}", f"((-){HUGE})0aa",
)


def simulated(program, capacity, mode, length):
    """The end length and the number of lost letters, or None for both, by doing all steps."""
    result = simulate(expand(program), capacity, mode, different_letters(length))
    return (None, None) if isinstance(result, int) else (len(result[0]), len(result[2]))


def computed(program, capacity, mode, length):
    return end_length(program, capacity, mode, length), lost_letters(program, capacity, mode, length)


class LengthsTest(unittest.TestCase):
    def assert_lengths(self, program, capacity, mode):
        expected = [simulated(program, capacity, mode, length) for length in range(capacity + 1)]
        for length in range(capacity + 1):
            self.assertEqual(computed(program, capacity, mode, length), expected[length], (program, capacity, mode))
        starts = [length for length in range(capacity + 1) if expected[length] != (None, None)]
        # The lengths for which a program succeeds are an interval.
        self.assertEqual(starts, list(range(starts[0], starts[-1] + 1)) if starts else [])
        self.assertEqual(start_lengths(program, capacity, mode), (starts[0], starts[-1]) if starts else None)

    def test_examples(self):
        self.assertEqual(end_length("ab-", 2, "oldest", 2), 1)
        self.assertEqual(lost_letters("ab-", 2, "oldest", 2), 2)

    def test_every_short_sequence(self):
        for sequence in sequences(7):
            for capacity in range(1, 5):
                for mode in MODES:
                    self.assert_lengths(sequence, capacity, mode)

    def test_random_programs(self):
        for program in random_programs(150, seed=21):
            for capacity in (1, 2, 3, 7, 12):
                for mode in MODES:
                    self.assert_lengths(program, capacity, mode)

    def test_capacities_1_and_100(self):
        for program in ("", "a", "-", "a-", "-a", "(a)100", "(-)100", "(a)101", "(a)101-", "(-)101", "(a)60(-)59", "(-)9(a)70(-)61"):
            for capacity in (1, 99, 100):
                for mode in MODES:
                    self.assert_lengths(program, capacity, mode)

    def test_the_empty_program(self):
        for program in ("", "()0", f"(){HUGE}", f"((a){HUGE})0", nest(20, "", HUGE)):
            for mode in MODES:
                for capacity in (1, 100):
                    self.assertEqual(start_lengths(program, capacity, mode), (0, capacity))
                    for length in (0, capacity):
                        self.assertEqual(computed(program, capacity, mode, length), (length, 0))

    def test_a_full_queue_in_each_mode(self):
        for capacity in (1, 2, 100):
            for mode, expected in (("oldest", (capacity, 1)), ("newest", (capacity, 1)), ("strict", (None, None))):
                self.assertEqual(computed("a", capacity, mode, capacity), expected)
                self.assertEqual(computed("-a", capacity, mode, capacity), (capacity, 0))
        self.assertEqual(computed("(a)5--", 3, "newest", 3), (1, 5))

    def test_results_are_of_the_stated_kinds(self):
        self.assertIs(type(start_lengths("a-", 3, "strict")), tuple)
        self.assertIsNone(start_lengths("(a)4", 3, "strict"))
        self.assertIsNone(start_lengths("(a)4(-)4", 3, "oldest"))
        self.assertIsNone(end_length("-", 3, "oldest", 0))
        self.assertIsNone(lost_letters("-", 3, "oldest", 0))


class LargeCountsTest(unittest.TestCase):
    def test_large_counts(self):
        for program, capacity, mode, length, expected in (
            (f"(a){HUGE}", 100, "oldest", 7, (100, HUGE - 93)),
            (f"(a){HUGE}", 100, "newest", 0, (100, HUGE - 100)),
            (f"(a){HUGE}", 100, "strict", 0, (None, None)),
            (f"(a){HUGE}-", 1, "newest", 1, (0, HUGE)),
            (f"(-){HUGE}", 100, "oldest", 100, (None, None)),
            (f"(a-){HUGE}", 1, "strict", 0, (0, 0)),
            (f"(a-){HUGE}", 1, "strict", 1, (None, None)),
            (f"(a-){HUGE}", 1, "newest", 1, (0, 1)),
            (f"(-a){HUGE}", 1, "oldest", 1, (1, 0)),
            (f"(-a){HUGE}", 1, "oldest", 0, (None, None)),
            (f"(aa-){HUGE}", 5, "oldest", 2, (4, HUGE + 1 - 3)),
            (f"((aa-){HUGE}--){HUGE}", 5, "oldest", 2, (2, HUGE ** 2 - 2 * HUGE)),
            (nest(20, "a", HUGE), 100, "newest", 100, (100, HUGE ** 20)),
            (nest(20, "-", HUGE), 100, "newest", 100, (None, None)),
            (nest(20, "a-", HUGE), 1, "strict", 0, (0, 0)),
        ):
            self.assertEqual(computed(program, capacity, mode, length), expected, program)

    def test_start_lengths(self):
        for program, capacity, mode, expected in (
            (f"(a){HUGE}", 3, "oldest", (0, 3)), (f"(a){HUGE}", 3, "strict", None), (f"(-){HUGE}", 100, "newest", None),
            (f"--(a-){HUGE}", 3, "strict", (2, 3)), (f"--(a-){HUGE}", 2, "strict", (2, 2)),
            (f"--(aaaa-){HUGE}", 2, "newest", (2, 2)), (f"--(a-){HUGE}", 1, "oldest", None),
            (f"(a-){HUGE}", 100, "strict", (0, 99)), (f"(a){HUGE}(-)100", 100, "newest", (0, 100)),
            (f"(a){HUGE}(-)100", 99, "newest", None),
        ):
            self.assertEqual(start_lengths(program, capacity, mode), expected, program)

    def test_programs_one_after_the_other(self):
        programs = random_programs(25, seed=22) + list(LARGE)
        source = random.Random(23)
        for one in programs:
            for other in programs:
                capacity, mode = source.choice((1, 2, 3, 5, 100)), source.choice(MODES)
                for length in {0, capacity, source.randint(0, capacity), source.randint(0, capacity)}:
                    self.assertEqual(
                        computed(one + other, capacity, mode, length), self.chained(one, other, capacity, mode, length)
                    )

    def chained(self, one, other, capacity, mode, length):
        middle, first = computed(one, capacity, mode, length)
        end, second = (None, None) if middle is None else computed(other, capacity, mode, middle)
        return (None, None) if end is None else (end, first + second)

    def test_one_repetition_more(self):
        for program in ("a", "-", "a-", "-a", "aa-", "a--", "-aa-", "(ab-)3--", f"(a){HUGE}-", f"(a-){HUGE}-a"):
            for mode in MODES:
                for capacity in (1, 3, 100):
                    for length in (0, 1, capacity):
                        self.assertEqual(
                            computed(f"({program}){HUGE}", capacity, mode, length),
                            self.chained(f"({program}){HUGE - 1}", program, capacity, mode, length),
                        )


class CapacitiesTest(unittest.TestCase):
    def least(self, length, fits):
        """The least capacity up to 40 that fits."""
        found = [capacity for capacity in range(max(1, length), 41) if fits(capacity)]
        return found[0] if found else None

    def assert_capacities(self, program, length):
        for mode in MODES:
            expected = self.least(length, lambda capacity: simulated(program, capacity, mode, length)[0] is not None)
            self.assertEqual(least_capacity(program, mode, length), expected, (program, mode, length))
            lossless = self.least(length, lambda capacity: simulated(program, capacity, mode, length)[1] == 0)
            self.assertEqual(lossless_capacity(program, length), lossless, (program, length))

    def test_every_short_sequence(self):
        for sequence in sequences(6):
            for length in range(5):
                self.assert_capacities(sequence, length)

    def test_random_programs(self):
        for program in random_programs(80, seed=24, depth=2, most_count=2):
            if len(expand(program)) < 35:
                for length in (0, 1, 2, 5):
                    self.assert_capacities(program, length)

    def test_capacities_are_at_least_1_and_at_least_the_length(self):
        for program in ("", f"(){HUGE}", f"((a){HUGE})0"):
            for length, expected in ((0, 1), (1, 1), (7, 7), (100, 100), (101, 101), (HUGE, HUGE)):
                for mode in MODES:
                    self.assertEqual(least_capacity(program, mode, length), expected)
                self.assertEqual(lossless_capacity(program, length), expected)

    def test_large_counts_and_lengths(self):
        for program, length, oldest, strict in (
            (f"(a){HUGE}", 0, 1, HUGE), (f"(a){HUGE}", 5, 5, HUGE + 5), (f"(-){HUGE}", HUGE, HUGE, HUGE),
            (f"(-){HUGE}", HUGE - 1, None, None), (f"(a){HUGE}(-){HUGE}", 0, HUGE, HUGE),
            (f"(a){HUGE}(-)5", 3, 5, HUGE + 3), (f"(aa-){HUGE}", 0, 1, HUGE + 1), (f"-(aa-){HUGE}", 1, 1, HUGE + 1),
            (f"-(aa-){HUGE}", 0, None, None), (f"((a-){HUGE}a){HUGE}", 2, 2, HUGE + 2), ("(a)101(-)101", 0, 101, 101),
            (nest(20, "a", HUGE), 1, 1, HUGE ** 20 + 1), (nest(20, "-", HUGE), HUGE, None, None),
        ):
            self.assertEqual(least_capacity(program, "oldest", length), oldest, program)
            self.assertEqual(least_capacity(program, "newest", length), oldest, program)
            self.assertEqual(least_capacity(program, "strict", length), strict, program)
            self.assertEqual(lossless_capacity(program, length), strict, program)


class ArgumentsTest(unittest.TestCase):
    def test_order_of_errors(self):
        programs = ("program", "aa-", ("(a)", "(a)01", None, 1, b"a"), InvalidProgram)
        capacities = ("capacity", 3, NO_CAPACITIES, InvalidCapacity)
        modes = ("mode", "strict", NO_MODES, InvalidMode)
        lengths = ("length", 1, NO_LENGTHS, InvalidInteger)
        bounded = ("length", 1, NO_LENGTHS + (4, 5, 101, HUGE), InvalidInteger)
        for call, arguments in (
            (start_lengths, (programs, capacities, modes)), (end_length, (programs, capacities, modes, bounded)),
            (lost_letters, (programs, capacities, modes, bounded)), (least_capacity, (programs, modes, lengths)),
            (lossless_capacity, (programs, lengths)),
        ):
            assert_errors_in_order(self, call, arguments)

    def test_errors_come_also_if_the_program_fails(self):
        for call in (end_length, lost_letters):
            with self.assertRaises(InvalidInteger):
                call("-" * 9, 3, "oldest", 4)
        with self.assertRaises(InvalidMode):
            start_lengths("-" * 9, 3, "fifo")

    def test_every_function_rejects_other_programs(self):
        for value in NO_PROGRAMS + OTHER_KINDS:
            for call in (
                lambda: start_lengths(value, 2, "oldest"), lambda: end_length(value, 2, "oldest", 1),
                lambda: lost_letters(value, 2, "oldest", 1), lambda: least_capacity(value, "oldest", 1),
                lambda: lossless_capacity(value, 1),
            ):
                with self.assertRaises(InvalidProgram):
                    call()

    def test_changed_programs(self):
        source = random.Random(25)
        for program in ("a(b-)2", "((a)2-)10", f"(a){HUGE}", nest(20)):
            for changed in mutations(program, source):
                if accepts(changed):
                    start_lengths(changed, 3, "oldest")
                else:
                    with self.assertRaises(InvalidProgram):
                        start_lengths(changed, 3, "oldest")


if __name__ == "__main__":
    unittest.main()
