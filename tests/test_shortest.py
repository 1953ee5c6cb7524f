import random
import unittest

from fullqueue.comparing import generated
from fullqueue.effects import Effect
from fullqueue.errors import InvalidEffect, InvalidMode
from fullqueue.programs import count_steps, is_sequence
from fullqueue.running import effect_of
from fullqueue.shortest import shortest_sequence
from tests.effect_samples import NO_EFFECTS, all_effects, random_effect
from tests.samples import HUGE, NO_MODES, assert_errors_in_order, nest, random_programs, sequences

MODES_WITH_SHORTEST = ("oldest", "strict")


def least_sizes(capacity, mode, letters):
    """The least number of steps for each effect of the sequences with these letters."""
    steps = [effect_of(step, capacity, mode) for step in letters + "-"]
    return {effect.rows: len(indices) for effect, indices in generated(*steps, most=2000)}


def sizes_by_trying(capacity, mode, most, letters):
    """The least number of steps for each effect of the sequences of at most so many steps, by trying all."""
    sizes = {}
    for sequence in sequences(most, letters + "-"):
        sizes.setdefault(effect_of(sequence, capacity, mode).rows, len(sequence))
    return sizes


class ShortestTest(unittest.TestCase):
    def assert_shortest(self, effect, mode, size):
        sequence = shortest_sequence(effect, mode)
        self.assertTrue(is_sequence(sequence), (effect, mode))
        self.assertEqual(effect_of(sequence, effect.capacity, mode), effect)
        self.assertEqual(len(sequence), size, (effect, mode))

    def test_example(self):
        self.assertEqual(shortest_sequence(effect_of("a-", 2, "strict"), "strict"), "a-")

    def test_small_cases(self):
        for program, capacity, mode, expected in (
            ("", 1, "oldest", ""), ("", 100, "strict", ""), ("q", 1, "oldest", "q"), ("q", 3, "strict", "q"),
            ("-", 2, "oldest", "-"), ("-x", 2, "strict", "-x"), ("x-", 2, "oldest", "x-"), ("ab", 1, "oldest", "b"),
            ("abcd", 2, "oldest", "cd"), ("(ab-)1000c", 2, "oldest", "bc"), ("a-a-a-", 1, "oldest", "a-"),
            ("a-a-a-", 1, "strict", "a-"), ("--", 1, "oldest", "--"), ("---", 1, "strict", "--"), ("(a)9", 1, "strict", "--"),
            (f"(x){HUGE}yz", 4, "oldest", "xxyz"), (f"(-){HUGE}", 3, "oldest", "----"), (f"(){HUGE}", 3, "oldest", ""),
        ):
            self.assertEqual(shortest_sequence(effect_of(program, capacity, mode), mode), expected, program)

    def test_all_effects_of_sequences_with_one_letter(self):
        for mode in MODES_WITH_SHORTEST:
            for capacity in range(1, 9):
                for rows, size in least_sizes(capacity, mode, "a").items():
                    self.assert_shortest(Effect(capacity, rows), mode, size)

    def test_all_effects_of_sequences_with_several_letters(self):
        for mode in MODES_WITH_SHORTEST:
            for capacity, letters in ((1, "ab"), (1, "xyz"), (2, "ab"), (2, "xyz"), (3, "ab"), (3, "xyz"), (4, "ab")):
                for rows, size in least_sizes(capacity, mode, letters).items():
                    self.assert_shortest(Effect(capacity, rows), mode, size)

    def test_against_trying_all_sequences(self):
        for mode in MODES_WITH_SHORTEST:
            for capacity, most, letters in ((1, 8, "ab"), (2, 7, "ab"), (2, 11, "a"), (3, 11, "a")):
                sizes = sizes_by_trying(capacity, mode, most, letters)
                for rows, size in sizes.items():
                    self.assert_shortest(Effect(capacity, rows), mode, size)

    def test_effects_with_rows_of_any_kind(self):
        # All tables of rows: those that no sequence has, too.
        for mode in MODES_WITH_SHORTEST:
            for capacity, letters in ((1, "a"), (1, "ab"), (2, "a"), (2, "ab"), (3, "a")):
                sizes = least_sizes(capacity, mode, letters)
                found = 0
                for effect in all_effects(capacity, letters):
                    if effect.rows in sizes:
                        self.assert_shortest(effect, mode, sizes[effect.rows])
                        found += 1
                    else:
                        self.assertIsNone(shortest_sequence(effect, mode), effect)
                self.assertEqual(found, len(sizes))

    def test_an_effect_of_the_other_mode(self):
        for capacity in (1, 2, 3):
            oldest, strict = [least_sizes(capacity, mode, "ab") for mode in MODES_WITH_SHORTEST]
            newest = least_sizes(capacity, "newest", "ab")
            for rows in {**oldest, **strict, **newest}:
                for mode, sizes in (("oldest", oldest), ("strict", strict)):
                    sequence = shortest_sequence(Effect(capacity, rows), mode)
                    self.assertEqual(None if sequence is None else len(sequence), sizes.get(rows), (rows, mode))

    def test_the_failing_effect(self):
        for capacity in (1, 2, 3, 99, 100):
            for mode in MODES_WITH_SHORTEST:
                self.assert_shortest(Effect.failing(capacity), mode, capacity + 1)

    def test_the_identity(self):
        for capacity in (1, 2, 100):
            for mode in MODES_WITH_SHORTEST:
                self.assertEqual(shortest_sequence(Effect.identity(capacity), mode), "")

    def test_random_rows_of_capacity_100(self):
        source = random.Random(91)
        for _ in range(30):
            effect = random_effect(source, 100, failing=source.choice((0, 0.1, 0.95)))
            for mode in MODES_WITH_SHORTEST:
                self.assertIsNone(shortest_sequence(effect, mode))

    def test_one_row_changed(self):
        for program in ("(ab)20(-)30", "-ab-", "(a)40", "(-)40", "(-)40(a)45", "(a)20(-)40(b)2", "(-)30(ab)20(-)3"):
            for mode in MODES_WITH_SHORTEST:
                effect = effect_of(program, 50, mode)
                lengths = [length for length, _ in effect.lengths()]
                for length in {lengths[1], lengths[len(lengths) // 2], lengths[-2]}:
                    kept, word = effect[length]
                    # Another end length, or another letter than in the last row.
                    for row in (None, (0, word), (kept, word[1:]), (kept, word[:-1] + "z"), (kept, word + "z")):
                        if row != effect[length] and not (row and row[0] + len(row[1]) > 50):
                            rows = list(effect.rows)
                            rows[length] = row
                            self.assertIsNone(shortest_sequence(Effect(50, rows), mode), (program, length, row))


class LargeTest(unittest.TestCase):
    def assert_size(self, program, capacity, mode, size):
        effect = effect_of(program, capacity, mode)
        sequence = shortest_sequence(effect, mode)
        self.assertEqual(effect_of(sequence, capacity, mode), effect, (program, capacity, mode))
        self.assertEqual(len(sequence), size, (program, capacity, mode))

    def test_sizes_grow_with_the_capacity(self):
        # In capacity 8 all effects are generated; counts and capacities 12 times as large take 12 times as many steps.
        for mode in MODES_WITH_SHORTEST:
            sizes = least_sizes(8, mode, "a")
            for sequence in sequences(4):
                program = "".join(f"({step}){{{at}}}" for at, step in enumerate(sequence))
                for counts in ((1, 1, 1, 1), (8, 8, 8, 8), (3, 5, 7, 4), (8, 3, 6, 2), (2, 7, 8, 1), (5, 8, 2, 8), (6, 4, 3, 8)):
                    rows = effect_of(program.format(*counts), 8, mode).rows
                    larger = program.format(*[12 * count for count in counts])
                    if effect_of(larger, 96, mode):
                        self.assert_size(larger, 96, mode, 12 * sizes[rows])

    def test_hundreds_of_steps(self):
        for program, mode, size in (
            ("(-)100(a)100(-)99", "oldest", 101), ("(-)60(ab)50(-)40", "oldest", 200), ("(-)40(ab)50(-)100", "oldest", 160),
            ("(-)100(abcd)25", "oldest", 200), ("(-)100(abcd)25", "strict", 200), ("(a)100(-)100(b)100", "strict", 100),
            ("(-)50(ab)25(-)50(c)20", "strict", 170), ("(a)20(-)100(b)80", "strict", 200), ("(a)99(-)99", "oldest", 198),
            ("(-)100(a)100(-)100(b)100", "strict", 200), ("(a)50(-)100(a)100(-)50", "strict", 200),
        ):
            self.assert_size(program, 100, mode, size)

    def test_many_puts_at_the_lowest_offset(self):
        for mode in MODES_WITH_SHORTEST:
            for program, capacity, size in (
                ("(-a)50", 60, 100), ("(-a)60", 60, 120), ("(-a)61", 60, 120), (f"(-a){HUGE}", 60, 120), ("(a-)59", 60, 118),
                (f"(a-){HUGE}", 1, 2), (f"(-a){HUGE}", 100, 200), (f"-(-a){HUGE}", 100, 199),
                (f"(-)99(a-){HUGE}", 100, 101), (f"(-)100(a-){HUGE}", 100, 100),
            ):
                self.assert_size(program, capacity, mode, size)

    def test_programs_with_large_counts(self):
        for program, capacity, size in (
            (f"(ab-){HUGE}", 100, 100 + 1 + 0), (f"(a){HUGE}", 100, 100), (f"(a){HUGE}(-)100", 100, 200),
            (nest(20, "ab-", HUGE), 100, 101), (f"(-)100(a){HUGE}", 100, 200), (f"(a){HUGE}(-)101", 100, 101),
            (f"(ab--){HUGE}", 100, 196), (f"(-ab-){HUGE}", 100, 198), (f"((ab-){HUGE}(-)30c){HUGE}", 100, 130),
        ):
            self.assert_size(program, capacity, "oldest", size)

    def test_never_longer_than_the_program(self):
        for program in random_programs(300, seed=92, most_count=6):
            for capacity in (1, 3, 6, 100):
                for mode in MODES_WITH_SHORTEST:
                    effect = effect_of(program, capacity, mode)
                    sequence = shortest_sequence(effect, mode)
                    self.assertEqual(effect_of(sequence, capacity, mode), effect)
                    self.assertLessEqual(len(sequence), max(count_steps(program), 0))

    def test_large_programs_have_a_sequence(self):
        source = random.Random(93)
        parts = ("(ab)100000000000", "---", "(-)7", "(abc-)33", "(--a)20", "(q)60", "(-)50", "(-a)99", "x", "(yz-)12")
        for _ in range(200):
            program = "".join(source.choices(parts, k=source.randrange(1, 7)))
            for capacity in (30, 99, 100):
                for mode in MODES_WITH_SHORTEST:
                    effect = effect_of(program, capacity, mode)
                    sequence = shortest_sequence(effect, mode)
                    self.assertEqual(effect_of(sequence, capacity, mode), effect, (program, capacity, mode))
                    self.assertLessEqual(len(sequence), count_steps(program))


class ArgumentsTest(unittest.TestCase):
    def test_order_of_errors(self):
        assert_errors_in_order(self, shortest_sequence, (
            ("effect", Effect.identity(1), NO_EFFECTS, InvalidEffect),
            ("mode", "oldest", ("newest",) + NO_MODES, InvalidMode),
        ))
        for value in NO_EFFECTS:
            with self.assertRaises(InvalidEffect) as caught:
                shortest_sequence(value, "newest")
            self.assertIsNone(caught.exception.position)

    def test_mode_newest(self):
        for effect in (Effect.identity(1), Effect.failing(100), effect_of("ab-", 2, "newest")):
            with self.assertRaises(InvalidMode):
                shortest_sequence(effect, "newest")

    def test_arguments_by_name(self):
        self.assertEqual(shortest_sequence(mode="oldest", effect=effect_of("xyz", 2, "oldest")), "yz")


if __name__ == "__main__":
    unittest.main()
