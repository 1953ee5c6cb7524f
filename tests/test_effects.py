import itertools
import random
import unittest

from fullqueue.effects import Effect
from fullqueue.errors import CapacityMismatch, EffectFailed, InvalidCapacity, InvalidEffect, InvalidInteger, InvalidQueue
from tests.effect_samples import NO_EFFECTS, all_effects, applied, both, random_effect
from tests.samples import HUGE, NO_CAPACITIES, NO_INTEGERS, OTHER_KINDS, assert_errors_in_order, different_letters, queues

NO_EXPONENTS = (-1, -HUGE, HUGE + 1, 10 ** 59, "a") + NO_INTEGERS

# Rows that are not valid for the start length 1 and the capacity 2.
NO_ROWS = (
    (2, ""), (-1, ""), (1, "ab"), (0, "abc"), (True, ""), (False, "a"), (None, "a"), ("0", "a"), (0, None), (0, b"a"),
    (0, "A"), (0, "-"), (0, "a "), (0, ["a"]), (0, ("a",)), (0,), (), ("",), (0, "a", ""), [0, "a"], {0: "a"}, "0a",
    "", 0, 1, True, False, "a", [], object(), (HUGE, ""), (1, "a" * 100),
)


class CreationTest(unittest.TestCase):
    def test_properties(self):
        for rows in ([(0, ""), (1, ""), None], [(0, "ab"), None, (2, "")], [None] * 3, [(0, "b"), (1, "a"), (0, "ba")]):
            for kind in (list, tuple):
                effect = Effect(2, kind(rows))
                self.assertEqual(effect.capacity, 2)
                self.assertEqual(effect.rows, tuple(rows))
                self.assertIs(type(effect.rows), tuple)
        for name in ("capacity", "rows"):
            self.assertIsInstance(vars(Effect)[name], property)
            with self.assertRaises(AttributeError):
                setattr(Effect.identity(2), name, 1)

    def test_arguments_by_name(self):
        self.assertEqual(Effect(rows=[None, (1, "")], capacity=1).rows, (None, (1, "")))
        self.assertEqual(Effect.identity(capacity=1).rows, ((0, ""), (1, "")))
        self.assertEqual(Effect.failing(capacity=1).rows, (None, None))
        self.assertEqual(Effect.identity(1)(queue="a"), "a")
        self.assertEqual(Effect.identity(1).power(exponent=3), Effect.identity(1))
        self.assertIs(Effect.identity(1).is_part_of(other=Effect.identity(1)), True)

    def test_changes_of_the_list_of_the_caller(self):
        rows = [(0, ""), (0, "a")]
        effect = Effect(1, rows)
        rows[0] = None
        rows.append((0, ""))
        self.assertEqual(effect.rows, ((0, ""), (0, "a")))

    def test_arguments_are_not_changed(self):
        rows = [(0, ""), (0, "a"), None]
        effect = Effect(2, rows)
        effect.power(3)
        effect * effect
        self.assertEqual(rows, [(0, ""), (0, "a"), None])

    def test_the_bounds_of_rows(self):
        for capacity in (1, 2, 100):
            for length in {0, 1, capacity - 1, capacity}:
                rows = [None] * (capacity + 1)
                for row in ((0, ""), (length, ""), (0, "a" * capacity), (length, "z" * (capacity - length))):
                    rows[length] = row
                    self.assertEqual(Effect(capacity, rows).rows[length], row)
                # One more letter kept than there are, and one more letter than there is room for.
                for row in ((length + 1, ""), (length, "a" * (capacity - length + 1)), (0, "a" * (capacity + 1))):
                    rows[length] = row
                    with self.assertRaises(InvalidEffect) as caught:
                        Effect(capacity, rows)
                    self.assertEqual(caught.exception.position, length)

    def test_rows_that_are_rejected(self):
        for row in NO_ROWS:
            for before in (None, (0, ""), (0, "ab")):
                for after in (None, (2, ""), row):
                    with self.assertRaises(InvalidEffect) as caught:
                        Effect(2, [before, row, after])
                    self.assertEqual(caught.exception.position, 1)
                    with self.assertRaises(InvalidEffect) as caught:
                        Effect(2, (3, row, after))
                    self.assertEqual(caught.exception.position, 0)

    def test_the_last_row_is_checked(self):
        with self.assertRaises(InvalidEffect) as caught:
            Effect(100, [None] * 100 + [(101, "")])
        self.assertEqual(caught.exception.position, 100)

    def test_values_that_are_no_rows_of_the_length(self):
        for value in ([], [None], [None] * 2, [None] * 4, (None,) * 4, "abc", {0: None, 1: None, 2: None}, b"abc") + OTHER_KINDS:
            with self.assertRaises(InvalidEffect) as caught:
                Effect(2, value)
            self.assertIsNone(caught.exception.position)

    def test_order_of_errors(self):
        capacities = ("capacity", 1, NO_CAPACITIES, InvalidCapacity)
        assert_errors_in_order(self, Effect, (capacities, ("rows", [None, None], ([None], [None, 1], "ab"), InvalidEffect)))
        assert_errors_in_order(self, Effect.identity, (capacities,))
        assert_errors_in_order(self, Effect.failing, (capacities,))

    def test_identity_and_failing(self):
        for capacity in (1, 2, 50, 100):
            identity = Effect.identity(capacity)
            self.assertEqual(identity.capacity, capacity)
            self.assertEqual(identity.rows, tuple((length, "") for length in range(capacity + 1)))
            failing = Effect.failing(capacity)
            self.assertEqual(failing.capacity, capacity)
            self.assertEqual(failing.rows, (None,) * (capacity + 1))

    def test_equality(self):
        effects = all_effects(1, "ab") + [Effect.identity(2), Effect.failing(2), Effect.failing(3)]
        for one, other in itertools.product(effects, repeat=2):
            expected = (one.capacity, one.rows) == (other.capacity, other.rows)
            self.assertIs(one == other, expected)
            self.assertIs(one != other, not expected)
        for value in (Effect.identity(1).rows, repr(Effect.identity(1))) + OTHER_KINDS:
            self.assertIs(Effect.identity(1) == value, False)
            self.assertIs(Effect.identity(1) != value, True)

    def test_repr(self):
        self.assertEqual(repr(Effect(1, [None, (0, "a")])), "Effect(1, (None, (0, 'a')))")
        self.assertEqual(repr(Effect.identity(2)), "Effect(2, ((0, ''), (1, ''), (2, '')))")


class ReadingTest(unittest.TestCase):
    def setUp(self):
        self.effect = Effect(3, [None, (0, "ab"), (1, ""), (2, "c")])

    def test_calls(self):
        for queue, expected in (("x", "ab"), ("xy", "y"), ("xyz", "yzc")):
            self.assertEqual(self.effect(queue), expected)

    def test_kept_0_and_kept_n(self):
        for capacity in (1, 2, 100):
            queue = different_letters(capacity)
            rows = [None] * capacity
            self.assertEqual(Effect(capacity, rows + [(0, "")])(queue), "")
            self.assertEqual(Effect(capacity, rows + [(0, "abcde"[:capacity])])(queue), "abcde"[:capacity])
            self.assertEqual(Effect(capacity, rows + [(capacity, "")])(queue), queue)
            self.assertEqual(Effect(capacity, rows + [(capacity - 1, "q")])(queue), queue[1:] + "q")

    def test_calls_that_fail(self):
        with self.assertRaises(EffectFailed) as caught:
            self.effect("")
        self.assertEqual(caught.exception.length, 0)
        for length in (0, 1, 100):
            with self.assertRaises(EffectFailed) as caught:
                Effect.failing(100)("a" * length)
            self.assertEqual(caught.exception.length, length)

    def test_values_that_are_no_queues(self):
        for value in ("abcd", "A", "a-", "-", "a b", "1", "a\n") + OTHER_KINDS:
            for effect in (self.effect, Effect.failing(3)):
                with self.assertRaises(InvalidQueue):
                    effect(value)

    def test_items(self):
        self.assertEqual([self.effect[length] for length in range(4)], [None, (0, "ab"), (1, ""), (2, "c")])
        self.assertEqual(Effect.identity(100)[100], (100, ""))
        for value in (-1, 4, 101, HUGE, slice(0, 1), "a") + NO_INTEGERS:
            with self.assertRaises(InvalidInteger):
                self.effect[value]

    def test_in(self):
        for length, expected in enumerate((False, True, True, True)):
            self.assertIs(length in self.effect, expected)
            self.assertIs(length in Effect.identity(3), True)
            self.assertIs(length in Effect.failing(3), False)
        for value in (-1, 4, 101, HUGE, "a", (0, "ab"), "ab") + NO_INTEGERS:
            self.assertIs(value in self.effect, False)
            self.assertIs(value in Effect.identity(3), False)

    def test_truth(self):
        self.assertIs(bool(self.effect), True)
        self.assertIs(bool(Effect.identity(1)), True)
        self.assertIs(bool(Effect(1, [(0, ""), None])), True)
        self.assertIs(bool(Effect(1, [None, (0, "")])), True)
        for capacity in (1, 2, 100):
            self.assertIs(bool(Effect.failing(capacity)), False)

    def test_lengths(self):
        self.assertEqual(list(self.effect.lengths()), [(1, 2), (2, 1), (3, 3)])
        self.assertEqual(list(Effect.identity(2).lengths()), [(0, 0), (1, 1), (2, 2)])
        self.assertEqual(list(Effect.failing(2).lengths()), [])
        lengths = self.effect.lengths()
        self.assertEqual(next(lengths), (1, 2))
        self.assertEqual(next(lengths), (2, 1))

    def test_effects_are_not_iterated_over(self):
        with self.assertRaises(TypeError):
            list(self.effect)


class PartsTest(unittest.TestCase):
    def test_parts(self):
        effects = all_effects(1, "ab")
        for one, other in itertools.product(effects, repeat=2):
            expected = all(row is None or row == wide for row, wide in zip(one.rows, other.rows))
            self.assertIs(one.is_part_of(other), expected)

    def test_edges(self):
        for capacity in (1, 2, 100):
            identity, failing = Effect.identity(capacity), Effect.failing(capacity)
            self.assertIs(failing.is_part_of(identity), True)
            self.assertIs(identity.is_part_of(failing), False)
            self.assertIs(identity.is_part_of(identity), True)
            self.assertIs(failing.is_part_of(failing), True)
            last = Effect(capacity, [None] * capacity + [(capacity, "")])
            self.assertIs(last.is_part_of(identity), True)
            self.assertIs(identity.is_part_of(last), False)

    def test_errors(self):
        for value in NO_EFFECTS:
            with self.assertRaises(InvalidEffect) as caught:
                Effect.identity(1).is_part_of(value)
            self.assertIsNone(caught.exception.position)
        for one, other in ((1, 2), (2, 1), (100, 99)):
            with self.assertRaises(CapacityMismatch) as caught:
                Effect.failing(one).is_part_of(Effect.identity(other))
            self.assertEqual((caught.exception.first, caught.exception.second), (one, other))


class ProductTest(unittest.TestCase):
    def assert_product(self, one, other, some_queues):
        product = one * other
        self.assertIs(type(product), Effect)
        self.assertEqual(product.capacity, one.capacity)
        for queue in some_queues:
            self.assertEqual(applied(product, queue), both(one, other, queue))

    def test_all_small_effects(self):
        for one, other in itertools.product(all_effects(1, "ab"), repeat=2):
            self.assert_product(one, other, queues(1))
        effects = random.Random(41).sample(all_effects(2), 120)
        for one, other in itertools.product(effects, repeat=2):
            self.assert_product(one, other, queues(2))

    def test_random_effects(self):
        source = random.Random(42)
        for capacity in (2, 3, 10, 100):
            some_queues = [different_letters(length) for length in range(capacity + 1)]
            for _ in range(60):
                one, other = random_effect(source, capacity), random_effect(source, capacity)
                self.assert_product(one, other, some_queues)

    def test_rows_as_the_document_says(self):
        # The second effect keeps more, as many and fewer letters than the first one puts, or none.
        first = Effect(3, [(0, "ab"), (1, "ab"), (2, ""), (0, "")])
        for second, expected in (
            ([(0, "x"), None, (2, "c"), (3, "")], ((0, "abc"), (1, "ab"), (2, "c"), (0, "x"))),
            ([None, (0, ""), (1, "cd"), (2, "c")], ((0, "bcd"), (0, "abc"), (1, "cd"), None)),
            ([(0, ""), (0, ""), (0, "cde"), (0, "")], ((0, "cde"), (0, ""), (0, "cde"), (0, ""))),
        ):
            self.assertEqual((first * Effect(3, second)).rows, expected)

    def test_identity_and_failing(self):
        source = random.Random(43)
        for capacity in (1, 2, 100):
            identity, failing = Effect.identity(capacity), Effect.failing(capacity)
            for _ in range(20):
                effect = random_effect(source, capacity)
                self.assertEqual(identity * effect, effect)
                self.assertEqual(effect * identity, effect)
                self.assertEqual(failing * effect, failing)
                self.assertEqual(effect * failing, failing)

    def test_products_are_associative_and_change_nothing(self):
        source = random.Random(44)
        for _ in range(200):
            one, two, three = [random_effect(source, 5) for _ in range(3)]
            before = (one.rows, two.rows, three.rows)
            self.assertEqual((one * two) * three, one * (two * three))
            self.assertEqual((one.rows, two.rows, three.rows), before)

    def test_capacities_that_differ(self):
        for one, other in ((1, 2), (2, 1), (100, 1)):
            with self.assertRaises(CapacityMismatch) as caught:
                Effect.identity(one) * Effect.failing(other)
            self.assertEqual((caught.exception.first, caught.exception.second), (one, other))


class PowerTest(unittest.TestCase):
    def test_small_exponents(self):
        source = random.Random(45)
        effects = all_effects(1, "ab") + [random_effect(source, capacity, failing=0.05) for capacity in (2, 3, 5) * 40]
        for effect in effects:
            expected = Effect.identity(effect.capacity)
            for exponent in range(12):
                self.assertEqual(effect.power(exponent), expected)
                self.assertEqual(effect ** exponent, expected)
                expected = expected * effect

    def test_exponents_of_up_to_thirty_digits(self):
        source = random.Random(46)
        for capacity in (1, 2, 5, 100):
            for _ in range(10):
                effect = random_effect(source, capacity, failing=0)
                for exponent in (HUGE - 1, HUGE // 2, source.randrange(HUGE)):
                    self.assertEqual(effect ** (exponent + 1), effect ** exponent * effect)
                    self.assertEqual(effect ** (exponent + 1), effect * effect.power(exponent))
                    self.assertEqual((effect ** (exponent // 3)) ** 3, effect ** (exponent // 3 * 3))

    def test_powers_that_never_settle(self):
        # From the lengths 0, 1 and 2 on, the lengths go round, so that the powers do, too.
        effect = Effect(2, [(0, "a"), (0, "bc"), (0, "")])
        for exponent in range(40):
            self.assertEqual(effect ** (exponent + 3), (effect ** (exponent % 3 + 3)))
        self.assertEqual(HUGE % 3, 1)
        self.assertEqual(effect ** HUGE, effect ** 4)
        self.assertEqual(effect ** (HUGE - 1), effect ** 3)
        swapping = Effect(1, [(0, "a"), (0, "")])
        self.assertEqual((swapping ** HUGE).rows, ((0, ""), (0, "a")))
        self.assertEqual((swapping ** (HUGE - 1)).rows, ((0, "a"), (0, "")))

    def test_edges(self):
        for capacity in (1, 100):
            identity, failing = Effect.identity(capacity), Effect.failing(capacity)
            self.assertEqual(failing ** 0, identity)
            self.assertEqual(failing.power(1), failing)
            self.assertEqual(failing ** HUGE, failing)
            self.assertEqual(identity ** HUGE, identity)
            put = Effect(capacity, [(length, "a") for length in range(capacity)] + [(capacity - 1, "a")])
            self.assertEqual((put ** HUGE).rows, ((0, "a" * capacity),) * (capacity + 1))

    def test_exponents_that_are_rejected(self):
        effect = Effect(2, [(0, "a"), None, (2, "")])
        for value in NO_EXPONENTS + (effect,):
            with self.assertRaises(InvalidInteger):
                effect ** value
            with self.assertRaises(InvalidInteger):
                effect.power(value)
        self.assertEqual(effect.rows, ((0, "a"), None, (2, "")))


if __name__ == "__main__":
    unittest.main()
