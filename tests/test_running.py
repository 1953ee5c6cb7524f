import random
import unittest

from fullqueue.buffers import make_buffer
from fullqueue.effects import Effect
from fullqueue.errors import BufferFailed, EffectFailed, InvalidCapacity, InvalidMode, InvalidProgram
from fullqueue.lengths import end_length
from fullqueue.programs import last_puts
from fullqueue.running import effect_of
from tests.samples import (
    HUGE, MODES, NO_CAPACITIES, NO_MODES, NO_PROGRAMS, OTHER_KINDS, assert_errors_in_order, different_letters, expand,
    nest, queues, random_programs, sequences, simulate,
)

# Programs whose large counts must not be run one by one; many succeed on queues of some lengths.
LARGE = (
    f"(a){HUGE}", f"(-){HUGE}", f"(ab-){HUGE}", f"(ab-){HUGE}c", f"(a-){HUGE}", f"(-a){HUGE}b", f"(a--){HUGE}",
    f"(aab--){HUGE}", f"((ab-){HUGE}--){HUGE}", f"((a){HUGE}-b){HUGE}", f"(abc--(de-){HUGE}-){HUGE}x-",
    f"((ab-)3(c-){HUGE}){HUGE - 1}", f"-((a){HUGE}(-)2){HUGE}b", f"((-a){HUGE}b){HUGE}", f"((a){HUGE})0b",
    nest(20, "ab-", HUGE), nest(20, "-ab-c", HUGE) + "--", nest(19, f"a(b-){HUGE}", 3), f"(){HUGE}",
)


def settled(program, most):
    """Replace large counts by small ones that have the same effect in capacities up to most."""
    return program.replace(str(HUGE), str(2 * most + 3)).replace(str(HUGE - 1), str(2 * most + 2))


class EffectOfTest(unittest.TestCase):
    def assert_effect(self, program, capacity, mode, some_queues):
        effect = effect_of(program, capacity, mode)
        self.assertEqual(effect.capacity, capacity)
        sequence = expand(program)
        for queue in some_queues:
            expected = simulate(sequence, capacity, mode, queue)
            if isinstance(expected, int):
                self.assertIsNone(effect[len(queue)], (program, capacity, mode))
                with self.assertRaises(EffectFailed):
                    effect(queue)
            else:
                self.assertEqual(effect(queue), expected[0], (program, capacity, mode, queue))

    def test_example(self):
        self.assertEqual(effect_of("ab-", 2, "oldest").rows, ((0, "b"), (0, "b"), (0, "b")))

    def test_results_are_effects(self):
        for mode in MODES:
            self.assertIs(type(effect_of("a", 2, mode)), Effect)
        self.assertEqual(effect_of("a", 2, "oldest").rows, ((0, "a"), (1, "a"), (1, "a")))
        self.assertEqual(effect_of("a", 2, "newest").rows, ((0, "a"), (1, "a"), (2, "")))
        self.assertEqual(effect_of("a", 2, "strict").rows, ((0, "a"), (1, "a"), None))
        self.assertEqual(effect_of("-b", 2, "strict").rows, (None, (0, "b"), (1, "b")))

    def test_every_short_sequence_on_every_short_queue(self):
        for sequence in sequences(5, "ab-"):
            for capacity in (1, 2, 3):
                for mode in MODES:
                    self.assert_effect(sequence, capacity, mode, queues(capacity))

    def test_every_short_sequence_of_one_letter(self):
        for sequence in sequences(9):
            for capacity in (1, 2, 3):
                for mode in MODES:
                    self.assert_effect(sequence, capacity, mode, [different_letters(n) for n in range(capacity + 1)])

    def test_buffers_give_the_same_results(self):
        source = random.Random(51)
        for _ in range(300):
            sequence = "".join(source.choices("abc--", k=source.randrange(12)))
            capacity, mode = source.choice((1, 2, 3, 100)), source.choice(MODES)
            queue = "".join(source.choices("xyz", k=source.randint(0, capacity)))
            buffer, effect = make_buffer(mode, capacity, queue), effect_of(sequence, capacity, mode)
            try:
                buffer.run(sequence)
            except BufferFailed:
                self.assertFalse(len(queue) in effect)
            else:
                self.assertEqual(effect(queue), buffer.queue)

    def test_random_programs(self):
        for program in random_programs(250, seed=52):
            for capacity in (1, 2, 5, 12):
                for mode in MODES:
                    self.assert_effect(program, capacity, mode, [different_letters(n) for n in range(capacity + 1)])

    def test_capacities_1_and_100(self):
        for program in (
            "", "a", "-", "ab-", "-ab", "(a)99", "(a)100", "(ab)100", "(-)100", "(a)100(-)100", "(a)101(-)101", "(-)100(ab)50",
            "(-)50(ab)30(-)7c", "(abc-)60", "(abc--)120", "(-ab)33",
        ):
            for capacity in (1, 99, 100):
                for mode in MODES:
                    self.assert_effect(program, capacity, mode, [different_letters(n) for n in range(capacity + 1)])

    def test_the_empty_program(self):
        for program in ("", "()7", f"(){HUGE}", f"((a-b){HUGE})0", nest(20, "", HUGE), nest(20, "ab-", 0)):
            for capacity in (1, 2, 100):
                for mode in MODES:
                    self.assertEqual(effect_of(program, capacity, mode), Effect.identity(capacity))

    def test_last_letters_in_mode_oldest(self):
        for program in LARGE + tuple(random_programs(100, seed=53)):
            for capacity in (1, 4, 100):
                effect = effect_of(program, capacity, "oldest")
                puts = last_puts(program, capacity)
                for length in (0, 1, capacity):
                    end = end_length(program, capacity, "oldest", length)
                    if end is None:
                        self.assertIsNone(effect[length])
                    else:
                        queue = different_letters(length)
                        self.assertEqual(effect(queue), (queue + puts)[len(queue + puts) - end:])

    def test_lengths_are_those_of_the_program(self):
        for program in LARGE:
            for capacity in (1, 3, 100):
                for mode in MODES:
                    ends = [(n, end_length(program, capacity, mode, n)) for n in range(capacity + 1)]
                    expected = [(n, end) for n, end in ends if end is not None]
                    self.assertEqual(list(effect_of(program, capacity, mode).lengths()), expected, program)


class LargeCountsTest(unittest.TestCase):
    def test_rows(self):
        for program, capacity, mode, expected in (
            (f"(a){HUGE}", 2, "oldest", ((0, "aa"),) * 3),
            (f"(a){HUGE}", 2, "newest", ((0, "aa"), (1, "a"), (2, ""))),
            (f"(a){HUGE}", 2, "strict", (None,) * 3),
            (f"(ab){HUGE}c", 3, "oldest", ((0, "abc"),) * 4),
            (f"(ab){HUGE}c", 3, "newest", ((0, "aba"), (1, "ab"), (2, "a"), (3, ""))),
            (f"(ab-){HUGE}", 2, "oldest", ((0, "b"),) * 3),
            (f"(ab-){HUGE}", 2, "newest", ((0, "a"), (0, "a"), (0, "a"))),
            (f"(a-){HUGE}", 2, "strict", ((0, ""), (0, "a"), None)),
            (f"(a-){HUGE}", 2, "newest", ((0, ""), (0, "a"), (0, "a"))),
            (f"(-a){HUGE - 1}b", 2, "newest", (None, (0, "ab"), (0, "aa"))),
            (nest(20, "-", HUGE), 100, "newest", (None,) * 101),
            (nest(20, "a", HUGE), 2, "newest", ((0, "aa"), (1, "a"), (2, ""))),
        ):
            self.assertEqual(effect_of(program, capacity, mode).rows, expected, program)

    def test_smaller_counts_from_which_on_the_effect_is_the_same(self):
        for program in (
            f"(a){HUGE}", f"(ab-){HUGE}c", f"(a-){HUGE}", f"(-a){HUGE}b", f"(aab--){HUGE}", f"(-abc-){HUGE - 1}-",
            f"(ab-c-){HUGE}xy", f"((ab-)2-){HUGE}", f"(abc--){HUGE}(-)2(de-){HUGE}", f"((ab-){HUGE}c-){HUGE}",
        ):
            for capacity in (1, 2, 3, 6):
                for mode in MODES:
                    effect = effect_of(program, capacity, mode)
                    for length in range(capacity + 1):
                        queue = different_letters(length)
                        expected = simulate(expand(settled(program, capacity)), capacity, mode, queue)
                        if isinstance(expected, int):
                            self.assertIsNone(effect[length], (program, capacity, mode))
                        else:
                            self.assertEqual(effect(queue), expected[0], (program, capacity, mode))

    def test_slow_repetitions_in_mode_newest(self):
        # It takes many rounds until the length, and many more until the letters stay the same.
        for body in ("ab-", "-ab-c", "(a)9(-)8", "(-)20(ab)10c", "-a-bcd-"):
            for capacity in (1, 20, 50, 100):
                queue = different_letters(capacity)
                for count in (capacity, 2 * capacity, 2 * capacity + 1, 2 * capacity + 2, 2 * capacity + 3, 3 * capacity):
                    effect = effect_of(f"({body}){count}", capacity, "newest")
                    for length in {0, 1, capacity // 2, capacity}:
                        expected = simulate(expand(f"({body}){count}"), capacity, "newest", queue[:length])
                        if isinstance(expected, int):
                            self.assertIsNone(effect[length])
                        else:
                            self.assertEqual(effect(queue[:length]), expected[0], (body, capacity, count))

    def test_one_program_after_the_other_is_the_product(self):
        programs = random_programs(20, seed=54) + list(LARGE)
        source = random.Random(55)
        for one in programs:
            for other in programs:
                capacity, mode = source.choice((1, 2, 4, 9)), source.choice(MODES)
                self.assertEqual(
                    effect_of(one + other, capacity, mode),
                    effect_of(one, capacity, mode) * effect_of(other, capacity, mode), (one, other, capacity, mode),
                )

    def test_a_repetition_is_the_power(self):
        programs = random_programs(40, seed=56) + ["ab-", "-ba", "-", "a", "a-", "-a-bb", f"(ab-){HUGE}-c", f"(-a){HUGE}"]
        for program in programs:
            for mode in MODES:
                for capacity in (1, 2, 5, 100):
                    effect = effect_of(program, capacity, mode)
                    for count in (0, 1, 2, 5, 2 * capacity + 1, 2 * capacity + 2, HUGE - 1, HUGE):
                        self.assertEqual(effect_of(f"({program}){count}", capacity, mode), effect ** count)

    def test_long_programs(self):
        for program in (f"(ab-){HUGE}" * 110, "(ab-)99" * 500, "ab-" * 1333, "()1" * 1300, nest(20, "a-bc-", 9) * 60):
            for mode in MODES:
                ends = dict(effect_of(program, 100, mode).lengths())
                for length in (0, 1, 50, 100):
                    self.assertEqual(ends.get(length), end_length(program, 100, mode, length), (program, mode))


class ArgumentsTest(unittest.TestCase):
    def test_order_of_errors(self):
        assert_errors_in_order(self, effect_of, (
            ("program", "ab-", NO_PROGRAMS + OTHER_KINDS, InvalidProgram),
            ("capacity", 2, NO_CAPACITIES, InvalidCapacity),
            ("mode", "newest", NO_MODES, InvalidMode),
        ))

    def test_results_are_equal_and_independent(self):
        for mode in MODES:
            self.assertEqual(effect_of("(ab-)3", 5, mode), effect_of("(ab-)3", 5, mode))
            self.assertEqual(effect_of(program="(ab-)3", capacity=5, mode=mode), effect_of("ab-ab-ab-", 5, mode))


if __name__ == "__main__":
    unittest.main()
