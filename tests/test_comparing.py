import itertools
import random
import unittest

from fullqueue.comparing import generated, separating_queue, settling
from fullqueue.effects import Effect
from fullqueue.errors import CapacityMismatch, InvalidEffect, InvalidInteger, LimitExceeded
from fullqueue.running import effect_of
from tests.effect_samples import NO_EFFECTS, all_effects, all_rows, applied, random_effect
from tests.samples import HUGE, MODES, NO_INTEGERS, assert_errors_in_order, nest, queues, random_programs, sequences

NO_MOSTS = (0, -1, -HUGE, 2001, HUGE, "a") + NO_INTEGERS


def least_separating_length(one, other, letters="abc"):
    """The length of the first queue for which the results differ, by trying all, or None."""
    for queue in queues(one.capacity, letters):
        if applied(one, queue) != applied(other, queue):
            return len(queue)
    return None


def settling_by_powers(effect):
    """The least exponent from which on many powers are equal, or None if no two that follow are."""
    powers = [Effect.identity(effect.capacity)]
    for _ in range(3 * effect.capacity + 8):
        powers.append(powers[-1] * effect)
    for exponent in range(len(powers) - 1):
        if powers[exponent] == powers[exponent + 1]:
            assert powers[exponent:] == [powers[exponent]] * (len(powers) - exponent)
            return exponent
    return None


def settles_by_lengths(effect):
    """Whether from each length repeated application comes to a length that does not change, or fails."""
    for length in range(effect.capacity + 1):
        seen = []
        while length not in seen and effect[length] is not None:
            seen.append(length)
            kept, word = effect[length]
            length = kept + len(word)
        if effect[length] is not None and length != seen[-1]:
            return False
    return True


def products_by_trying(effects, most):
    """All products of effects by trying all tuples of so many indices in order, with the first tuple of each."""
    found = {}
    for size in range(most + 1):
        for indices in itertools.product(range(len(effects)), repeat=size):
            product = Effect.identity(effects[0].capacity)
            for index in indices:
                product = product * effects[index]
            found.setdefault(product.rows, indices)
    return list(found.items())


class SeparatingQueueTest(unittest.TestCase):
    def assert_separated(self, one, other):
        queue = separating_queue(one, other)
        if one == other:
            self.assertIsNone(queue)
        else:
            self.assertIs(type(queue), str)
            self.assertNotEqual(applied(one, queue), applied(other, queue), (one, other))
            for length in range(len(queue)):
                self.assertEqual(one[length], other[length], (one, other))

    def test_example(self):
        queue = separating_queue(effect_of("a", 2, "oldest"), effect_of("a", 2, "newest"))
        self.assertEqual(len(queue), 2)
        self.assertNotEqual(applied(effect_of("a", 2, "oldest"), queue), applied(effect_of("a", 2, "newest"), queue))

    def test_all_pairs_of_capacity_1(self):
        for one, other in itertools.product(all_effects(1, "ab"), repeat=2):
            self.assert_separated(one, other)
            queue = separating_queue(one, other)
            self.assertEqual(None if queue is None else len(queue), least_separating_length(one, other))

    def test_pairs_of_small_capacities(self):
        effects = random.Random(61).sample(all_effects(2, "ab"), 90)
        source = random.Random(62)
        effects += [random_effect(source, 3) for _ in range(60)]
        for one, other in itertools.product(effects, repeat=2):
            if one.capacity == other.capacity:
                self.assert_separated(one, other)
                queue = separating_queue(one, other)
                self.assertEqual(None if queue is None else len(queue), least_separating_length(one, other))

    def test_all_pairs_of_rows_of_one_length(self):
        # Rows that keep letters must be told apart by the letters that they keep.
        for length in range(4):
            before = [(0, "ab")] * length
            after = [None] * (3 - length)
            rows = all_rows(length, 3, "ab")
            for row, other_row in itertools.product(rows, repeat=2):
                self.assert_separated(Effect(3, before + [row] + after), Effect(3, before + [other_row] + after))

    def test_effects_that_differ_in_one_row(self):
        source = random.Random(63)
        for capacity in (1, 2, 7, 100):
            for length in {0, 1, capacity // 2, capacity - 1, capacity}:
                effect = random_effect(source, capacity)
                for kept, word in (
                    (length, ""), (0, ""), (0, "a" * capacity), (0, "b" * length), (length // 2, "a" * (length - length // 2)),
                    (max(0, length - 1), "a" if length else ""), (length, "z" * (capacity - length)),
                ):
                    rows = list(effect.rows)
                    rows[length] = (kept, word)
                    other = Effect(capacity, rows)
                    self.assert_separated(effect, other)
                    if effect != other:
                        self.assertEqual(len(separating_queue(other, effect)), length)
                    rows[length] = None
                    self.assert_separated(Effect(capacity, rows), other)
                    self.assertEqual(len(separating_queue(Effect(capacity, rows), other)), length)

    def test_equal_effects(self):
        source = random.Random(64)
        for capacity in (1, 2, 100):
            for effect in (random_effect(source, capacity), Effect.identity(capacity), Effect.failing(capacity)):
                self.assertIsNone(separating_queue(effect, effect))
                self.assertIsNone(separating_queue(effect, Effect(capacity, list(effect.rows))))
            self.assertEqual(separating_queue(Effect.identity(capacity), Effect.failing(capacity)), "")

    def test_random_rows_of_capacity_100(self):
        source = random.Random(65)
        for _ in range(60):
            one, other = random_effect(source, 100), random_effect(source, 100)
            self.assert_separated(one, other)
            # Equal up to a length.
            length = source.randint(0, 100)
            mixed = Effect(100, one.rows[:length] + other.rows[length:])
            self.assert_separated(one, mixed)
            self.assert_separated(mixed, one)

    def test_programs_have_the_same_effect_exactly_if_they_give_the_same_on_every_queue(self):
        programs = random_programs(40, seed=66, letters="ab") + ["a-", "-a", "ab-", "ba-", "", "()3", "(a)2", "aa"]
        source = random.Random(67)
        for one, other in itertools.product(programs, repeat=2):
            capacity, mode = source.randint(1, 3), source.choice(MODES)
            effects = [effect_of(program, capacity, mode) for program in (one, other)]
            queue = separating_queue(*effects)
            self.assertEqual(None if queue is None else len(queue), least_separating_length(*effects))
            self.assert_separated(*effects)

    def test_programs_with_large_counts(self):
        for one, other, length in (
            (f"(a){HUGE}", "(a)100", None), (f"(a){HUGE}", "(a)99", 0), (f"(a){HUGE}b", "(a)98b", 0),
            ("(a)99b(-)50", f"(a){HUGE}b(-)50", None), (f"(ab-){HUGE}", f"(ab-){HUGE - 1}", None),
            ("-" * 50, "-" * 51, 50), (nest(20, "a-", HUGE), "a-", 2), (f"a(-a){HUGE}", "a-a", 2),
        ):
            queue = separating_queue(effect_of(one, 100, "oldest"), effect_of(other, 100, "oldest"))
            self.assertEqual(None if queue is None else len(queue), length, (one, other))

    def test_errors(self):
        assert_errors_in_order(self, separating_queue, (
            ("one", Effect.identity(1), NO_EFFECTS, InvalidEffect),
            ("other", Effect.identity(1), NO_EFFECTS, InvalidEffect),
        ))
        for value in NO_EFFECTS:
            for one, other in ((value, Effect.identity(2)), (Effect.identity(2), value), (value, value)):
                with self.assertRaises(InvalidEffect) as caught:
                    separating_queue(one, other)
                self.assertIsNone(caught.exception.position)
        for first, second in ((1, 2), (2, 1), (100, 99)):
            with self.assertRaises(CapacityMismatch) as caught:
                separating_queue(Effect.identity(first), Effect.failing(second))
            self.assertEqual((caught.exception.first, caught.exception.second), (first, second))

    def test_arguments_by_name(self):
        self.assertIsNone(separating_queue(other=Effect.identity(3), one=Effect.identity(3)))


class SettlingTest(unittest.TestCase):
    def test_example(self):
        self.assertEqual(settling(effect_of("a", 2, "oldest")), 2)

    def test_small_cases(self):
        for rows, expected in (
            (((0, ""), (1, "")), 0), ((None, None), 1), (((0, ""), None), 1), (((0, "a"), (0, "")), None),
            ((None, (0, "a")), 1), (((0, "a"), (1, "")), 1), (((0, "a"), None), 2), (((0, ""), (0, "")), 1),
            (((0, ""), (0, "a"), (0, "ab")), 1), (((0, ""), (0, "ab"), (0, "a")), None),
            (((0, ""), (1, ""), (1, "a")), 2), (((0, "a"), (1, "a"), (1, "b")), 4), (((0, "ab"), None, (0, "a")), 3),
        ):
            self.assertEqual(settling(Effect(len(rows) - 1, rows)), expected, rows)

    def test_all_small_effects(self):
        for effect in all_effects(1, "ab") + all_effects(2):
            self.assertEqual(settling(effect), settling_by_powers(effect), effect)
            self.assertEqual(settling(effect) is not None, settles_by_lengths(effect), effect)

    def test_random_effects(self):
        source = random.Random(71)
        found = []
        for capacity in (2, 3, 4, 6, 9) * 60:
            effect = random_effect(source, capacity, failing=source.choice((0, 0.2, 0.5)))
            found.append(settling(effect))
            self.assertEqual(found[-1], settling_by_powers(effect), effect)
            self.assertEqual(found[-1] is not None, settles_by_lengths(effect), effect)
        self.assertGreater(found.count(None), 50)
        self.assertGreater(len(set(found)), 8)

    def test_every_short_sequence(self):
        for sequence in sequences(5, "ab-"):
            for capacity in (1, 2, 3):
                for mode in MODES:
                    effect = effect_of(sequence, capacity, mode)
                    self.assertEqual(settling(effect), settling_by_powers(effect), (sequence, capacity, mode))
                    self.assertLessEqual(settling(effect), 2 * capacity + 2)

    def test_programs(self):
        for program in random_programs(60, seed=72) + ["ab-", "-a-bc", f"(ab-){HUGE}-", f"(a){HUGE}", f"((ab-){HUGE}--){HUGE}"]:
            for capacity in (1, 4, 100):
                for mode in MODES:
                    effect = effect_of(program, capacity, mode)
                    exponent = settling(effect)
                    self.assertLessEqual(exponent, 2 * capacity + 2)
                    self.assertEqual(effect ** exponent, effect ** (exponent + 1))
                    self.assertEqual(effect ** exponent, effect ** HUGE)
                    if exponent > 0:
                        self.assertNotEqual(effect ** (exponent - 1), effect ** exponent)

    def test_many_rounds(self):
        for capacity in (1, 2, 3, 50, 100):
            # It takes capacity rounds until no take fails for the first time, or until the queue is full.
            self.assertEqual(settling(effect_of("-", capacity, "newest")), capacity + 1)
            self.assertEqual(settling(effect_of("a", capacity, "strict")), capacity + 1)
            self.assertEqual(settling(effect_of("a", capacity, "newest")), capacity)
            self.assertEqual(settling(Effect.identity(capacity)), 0)
            self.assertEqual(settling(Effect.failing(capacity)), 1)
        # One letter more in each round until the queue is full, and then one letter replaced in each round.
        for capacity in (2, 3, 50, 100):
            rows = [(length, "a") for length in range(capacity)] + [(capacity - 1, "b")]
            self.assertEqual(settling(Effect(capacity, rows)), 2 * capacity)
            self.assertEqual(settling(effect_of("ab-", capacity, "newest")), 2 * capacity - 2)

    def test_lengths_in_any_order(self):
        source = random.Random(73)
        for capacity in (5, 30, 100):
            # The lengths are passed through one by one, to the last one or around forever.
            order = list(range(capacity + 1))
            source.shuffle(order)
            rows = [None] * (capacity + 1)
            for length, following in zip(order, order[1:]):
                rows[length] = (0, "x" * following)
            self.assertEqual(settling(Effect(capacity, rows)), capacity + 1)
            rows[order[-1]] = (0, "y" * order[-1])
            self.assertEqual(settling(Effect(capacity, rows)), capacity + (order[-1] > 0))
            rows[order[-1]] = (0, "x" * order[-2])
            self.assertIsNone(settling(Effect(capacity, rows)))
            rows[order[-1]] = (0, "x" * order[0])
            self.assertIsNone(settling(Effect(capacity, rows)))

    def test_errors(self):
        for value in NO_EFFECTS:
            with self.assertRaises(InvalidEffect) as caught:
                settling(value)
            self.assertIsNone(caught.exception.position)
        self.assertEqual(settling(effect=Effect.identity(1)), 0)


class GeneratedTest(unittest.TestCase):
    def test_of_one_effect(self):
        put = effect_of("a", 2, "oldest")
        self.assertEqual(generated(put), [(Effect.identity(2), ()), (put, (0,)), (put * put, (0, 0))])
        self.assertEqual(generated(Effect.identity(3)), [(Effect.identity(3), ())])
        self.assertEqual(generated(Effect.failing(3)), [(Effect.identity(3), ()), (Effect.failing(3), (0,))])
        swap = Effect(1, [(0, "a"), (0, "")])
        self.assertEqual(generated(swap), [
            (Effect.identity(1), ()), (swap, (0,)), (Effect(1, [(0, ""), (0, "a")]), (0, 0)),
        ])

    def test_kinds_of_results(self):
        found = generated(effect_of("a", 2, "oldest"), effect_of("-", 2, "oldest"))
        self.assertIs(type(found), list)
        for pair in found:
            self.assertIs(type(pair), tuple)
            effect, indices = pair
            self.assertIs(type(effect), Effect)
            self.assertIs(type(indices), tuple)

    def test_against_trying_all_tuples(self):
        source = random.Random(81)
        for many, capacity, most in ((1, 1, 8), (2, 1, 6), (3, 1, 5), (2, 2, 9), (3, 2, 6)):
            for _ in range(12):
                effects = [random_effect(source, capacity, "ab") for _ in range(many)]
                expected = products_by_trying(effects, most)
                found = [(effect.rows, indices) for effect, indices in generated(*effects, most=2000)]
                self.assertEqual([pair for pair in found if len(pair[1]) <= most], expected, effects)

    def test_order_and_least_tuples(self):
        for capacity in (1, 2, 3):
            for mode in MODES:
                effects = [effect_of(step, capacity, mode) for step in "-ba"]
                found = generated(*effects)
                keys = [(len(indices), indices) for _, indices in found]
                self.assertEqual(keys, sorted(keys))
                self.assertEqual(len({effect.rows for effect, _ in found}), len(found))
                for effect, indices in found:
                    self.assertEqual(effect, effect_of("".join("-ba"[index] for index in indices), capacity, mode))
                # It is closed under products.
                rows = {effect.rows for effect, _ in found}
                for effect, _ in found:
                    for step in effects:
                        self.assertIn((effect * step).rows, rows)

    def test_equal_arguments_and_the_identity(self):
        put, take = effect_of("a", 2, "strict"), effect_of("-", 2, "strict")
        found = generated(put, take)
        self.assertEqual(generated(put, take, put, take, take), found)
        moved = [(effect, tuple([(1, 3)[index] for index in indices])) for effect, indices in found]
        self.assertEqual(generated(Effect.identity(2), put, put, take), moved)
        self.assertEqual(generated(*[put] * 300), generated(put))

    def test_arguments_in_another_order_have_other_tuples(self):
        put, take = effect_of("a", 1, "oldest"), effect_of("-", 1, "oldest")
        self.assertEqual(dict((indices, effect) for effect, indices in generated(put, take))[(1, 1)], take * take)
        found = {effect.rows: indices for effect, indices in generated(take, put)}
        self.assertEqual(found[(take * put).rows], (0, 1))
        self.assertEqual({effect.rows for effect, _ in generated(put, take)}, set(found))

    def test_capacity_100(self):
        put = effect_of("a", 100, "oldest")
        found = generated(put)
        self.assertEqual(len(found), 101)
        self.assertEqual(found[100], (effect_of("(a)100", 100, "oldest"), (0,) * 100))

    def test_most_at_its_limits(self):
        put = effect_of("a", 100, "oldest")
        for most in (101, 102, 1000, 2000):
            self.assertEqual(len(generated(put, most=most)), 101)
        for most in (1, 2, 99, 100):
            with self.assertRaises(LimitExceeded) as caught:
                generated(put, most=most)
            self.assertEqual(caught.exception.size, most)
        self.assertEqual(len(generated(Effect.identity(1), most=1)), 1)
        with self.assertRaises(LimitExceeded) as caught:
            generated(Effect.failing(1), most=1)
        self.assertEqual(caught.exception.size, 1)

    def test_the_default_of_most(self):
        # These generate 1212 effects, so more than 1000.
        effects = [effect_of(step, 10, "oldest") for step in "a-"]
        with self.assertRaises(LimitExceeded) as caught:
            generated(*effects)
        self.assertEqual(caught.exception.size, 1000)
        found = generated(*effects, most=2000)
        self.assertEqual(generated(*effects, most=len(found)), found)
        with self.assertRaises(LimitExceeded) as caught:
            generated(*effects, most=len(found) - 1)
        self.assertEqual(caught.exception.size, len(found) - 1)
        with self.assertRaises(LimitExceeded) as caught:
            generated(*[effect_of(step, 12, "newest") for step in "a-"], most=2000)
        self.assertEqual(caught.exception.size, 2000)

    def test_results_are_new(self):
        put = effect_of("a", 2, "oldest")
        found = generated(put)
        found.clear()
        self.assertEqual(len(generated(put)), 3)


class GeneratedErrorsTest(unittest.TestCase):
    def test_no_argument(self):
        for settings in ({}, {"most": 10}, {"most": 0}, {"most": None}):
            with self.assertRaises(InvalidEffect) as caught:
                generated(**settings)
            self.assertIsNone(caught.exception.position)

    def test_arguments_that_are_no_effects(self):
        one, two = Effect.identity(1), Effect.identity(2)
        for value in NO_EFFECTS:
            for effects, position in (
                ((value,), 0), ((one, value), 1), ((value, one), 0), ((one, one, value, value), 2), ((one, two, value), 2),
            ):
                for most in (1000, 0, "a"):
                    with self.assertRaises(InvalidEffect) as caught:
                        generated(*effects, most=most)
                    self.assertEqual(caught.exception.position, position)

    def test_different_capacities(self):
        one, two, three = Effect.identity(1), Effect.failing(2), Effect.identity(3)
        for effects, first, second in (
            ((one, two), 1, 2), ((two, one), 2, 1), ((one, one, three, two), 1, 3), ((three, two, one), 3, 2),
        ):
            for most in (1000, 1, 0, None):
                with self.assertRaises(CapacityMismatch) as caught:
                    generated(*effects, most=most)
                self.assertEqual((caught.exception.first, caught.exception.second), (first, second))

    def test_most(self):
        for most in NO_MOSTS:
            for effect in (Effect.identity(1), Effect.failing(1)):
                with self.assertRaises(InvalidInteger):
                    generated(effect, most=most)
        # An argument by position is one more effect.
        with self.assertRaises(InvalidEffect) as caught:
            generated(Effect.identity(1), 10)
        self.assertEqual(caught.exception.position, 1)


if __name__ == "__main__":
    unittest.main()
