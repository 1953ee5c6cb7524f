import itertools
import random
import unittest

from fullqueue.errors import InvalidInteger, InvalidProgram
from fullqueue.profiles import Profile
from tests.samples import HUGE, NO_INTEGERS, expand, nest, random_programs

FIELDS = ("puts", "takes", "low", "high", "fall")
EMPTY = (0, 0, 0, 0, 0)


def numbers(profile):
    return tuple(getattr(profile, field) for field in FIELDS)


def measured(sequence):
    """The five numbers of a sequence, straight from their definitions."""
    offsets = [0]
    for step in sequence:
        offsets.append(offsets[-1] + (-1 if step == "-" else 1))
    falls = [one - later for one, later in itertools.combinations_with_replacement(offsets, 2)]
    takes = sequence.count("-")
    return len(sequence) - takes, takes, min(offsets), max(offsets), max(falls)


def repeated(profile, count):
    """The profile of count repetitions by sums alone: halving the count makes it short."""
    if count == 0:
        return Profile(*EMPTY)
    half = repeated(profile, count // 2)
    return half + half + profile if count % 2 else half + half


class CreationTest(unittest.TestCase):
    def test_properties(self):
        profile = Profile(5, 3, -2, 4, 6)
        self.assertEqual(numbers(profile), (5, 3, -2, 4, 6))
        self.assertEqual(profile.offset, 2)
        self.assertEqual(Profile(3, 5, -2, 1, 3).offset, -2)
        for field in FIELDS + ("offset",):
            self.assertIsInstance(vars(Profile)[field], property)

    def test_arguments_by_name(self):
        self.assertEqual(Profile(fall=6, high=4, low=-2, takes=3, puts=5), Profile(5, 3, -2, 4, 6))
        self.assertEqual(Profile.of(program="a--"), Profile.of("a--"))

    def test_bounds(self):
        self.assertEqual(numbers(Profile(*EMPTY)), EMPTY)
        for at, wrong in enumerate((-1, -1, 1, -1, -1)):
            for value in (wrong, wrong * HUGE):
                arguments = [1, 1, -1, 1, 1]
                arguments[at] = value
                with self.assertRaises(InvalidInteger):
                    Profile(*arguments)

    def test_other_kinds(self):
        for at in range(5):
            for value in NO_INTEGERS + ("a",):
                arguments = list(EMPTY)
                arguments[at] = value
                with self.assertRaises(InvalidInteger):
                    Profile(*arguments)

    def test_equality(self):
        self.assertTrue(Profile(5, 3, -2, 4, 6) == Profile(5, 3, -2, 4, 6))
        self.assertFalse(Profile(5, 3, -2, 4, 6) != Profile(5, 3, -2, 4, 6))
        for at in range(5):
            changed = [5, 3, -2, 4, 6]
            changed[at] += 1
            self.assertFalse(Profile(*changed) == Profile(5, 3, -2, 4, 6))
            self.assertTrue(Profile(*changed) != Profile(5, 3, -2, 4, 6))

    def test_other_kinds_are_not_equal(self):
        profile = Profile(*EMPTY)
        for value in NO_INTEGERS + (EMPTY, list(EMPTY), 0):
            self.assertIs(profile == value, False)
            self.assertIs(profile != value, True)


class ProgramsTest(unittest.TestCase):
    def test_example(self):
        self.assertEqual(Profile.of("a-(-)3").low, -3)

    def test_small_programs(self):
        for program, expected in (
            ("", EMPTY), ("()5", EMPTY), ("(a-)0", EMPTY), ("a", (1, 0, 0, 1, 0)), ("-", (0, 1, -1, 0, 1)),
            ("a-", (1, 1, 0, 1, 1)), ("-a", (1, 1, -1, 0, 1)), ("aa---a", (3, 3, -1, 2, 3)), ("aa-aa--", (4, 3, 0, 3, 2)),
            ("(a)3(-)2", (3, 2, 0, 3, 2)), ("--aaa-", (3, 3, -2, 1, 2)),
        ):
            self.assertEqual(numbers(Profile.of(program)), expected, program)

    def test_every_short_sequence(self):
        for length in range(9):
            for steps in itertools.product("a-", repeat=length):
                sequence = "".join(steps)
                self.assertEqual(numbers(Profile.of(sequence)), measured(sequence))

    def test_every_short_sequence_repeated(self):
        for length in range(7):
            for steps in itertools.product("a-", repeat=length):
                sequence = "".join(steps)
                for count in range(5):
                    expected = measured(sequence * count)
                    self.assertEqual(numbers(Profile.of(sequence) * count), expected)
                    self.assertEqual(numbers(Profile.of(f"({sequence}){count}")), expected)

    def test_random_programs(self):
        for program in random_programs(400, seed=11):
            self.assertEqual(numbers(Profile.of(program)), measured(expand(program)), program)

    def test_large_counts(self):
        for program, expected in (
            (f"(a){HUGE}", (HUGE, 0, 0, HUGE, 0)),
            (f"(-){HUGE}", (0, HUGE, -HUGE, 0, HUGE)),
            (f"(aa---){HUGE}", (2 * HUGE, 3 * HUGE, -HUGE, 2, HUGE + 2)),
            (f"(aaa--){HUGE}", (3 * HUGE, 2 * HUGE, 0, HUGE + 2, 2)),
            (f"(a--a){HUGE}", (2 * HUGE, 2 * HUGE, -1, 1, 2)),
            (f"(-aa-){HUGE}", (2 * HUGE, 2 * HUGE, -1, 1, 2)),
            (f"(-aaaa-){HUGE}", (4 * HUGE, 2 * HUGE, -1, 2 * HUGE + 1, 2)),
            (f"((a){HUGE}(-){HUGE}-){HUGE}", (HUGE ** 2, HUGE ** 2 + HUGE, -HUGE, HUGE, 2 * HUGE)),
            (nest(20, "a", HUGE), (HUGE ** 20, 0, 0, HUGE ** 20, 0)),
            (nest(20, "-", HUGE), (0, HUGE ** 20, -HUGE ** 20, 0, HUGE ** 20)),
            (nest(20, "", HUGE), EMPTY),
            (f"((a){HUGE})0(-)2", (0, 2, -2, 0, 2)),
        ):
            self.assertEqual(numbers(Profile.of(program)), expected, program)

    def test_long_texts(self):
        sequence = "aa---aaa-" * 444
        self.assertEqual(numbers(Profile.of(sequence)), numbers(repeated(Profile.of("aa---aaa-"), 444)))
        self.assertEqual(Profile.of(f"(a-a){HUGE}" * 100), Profile.of("a-a") * HUGE * 100)

    def test_other_values_are_rejected(self):
        for value in ("(a)", "A", "(a)01", nest(21), None, 1, True, b"a", ["a"]):
            with self.assertRaises(InvalidProgram):
                Profile.of(value)


class SumTest(unittest.TestCase):
    def setUp(self):
        self.programs = random_programs(60, seed=12) + ["", "a", "-", "a-", "-a", "--aaa--", f"(a--){HUGE}", f"(aa-){HUGE}"]

    def test_sums_are_profiles_of_programs_one_after_the_other(self):
        for one, other in itertools.product(self.programs, repeat=2):
            self.assertEqual(Profile.of(one) + Profile.of(other), Profile.of(one + other))

    def test_sums_are_associative(self):
        source = random.Random(13)
        profiles = [Profile.of(program) for program in self.programs]
        for _ in range(3000):
            one, other, third = source.choices(profiles, k=3)
            self.assertEqual((one + other) + third, one + (other + third))

    def test_a_sum_is_new_and_changes_nothing(self):
        one, other = Profile.of("aa-"), Profile.of("---a")
        total = one + other
        self.assertEqual(numbers(total), (3, 4, -2, 2, 4))
        self.assertEqual(numbers(one), (2, 1, 0, 2, 1))
        self.assertEqual(numbers(other), (1, 3, -3, 0, 3))
        self.assertEqual(numbers(Profile.of("") + one), numbers(one))
        self.assertEqual(numbers(one + Profile.of("")), numbers(one))

    def test_products_are_profiles_of_repetitions(self):
        for program in self.programs:
            for count in (0, 1, 2, 3, 5, HUGE - 1, HUGE):
                self.assertEqual(Profile.of(program) * count, Profile.of(f"({program}){count}"))
                self.assertEqual(Profile.of(program) * count, repeated(Profile.of(program), count))

    def test_one_repetition_more_adds_the_profile(self):
        for program in self.programs:
            profile = Profile.of(program)
            for count in (0, 1, 2, 3, 10, 4001, HUGE - 1):
                self.assertEqual(profile * (count + 1), profile * count + profile)
                self.assertEqual(profile * (count + 1), profile + profile * count)

    def test_a_product_changes_nothing(self):
        profile = Profile.of("aa---")
        self.assertEqual(numbers(profile * 2), (4, 6, -2, 2, 4))
        self.assertEqual(numbers(profile), (2, 3, -1, 2, 3))
        self.assertEqual(numbers(profile * 1), numbers(profile))

    def test_counts_that_are_rejected(self):
        profile = Profile.of("a-")
        for count in (-1, HUGE + 1, 10 ** 59, "2", profile) + NO_INTEGERS:
            with self.assertRaises(InvalidInteger):
                profile * count
        self.assertEqual(numbers(profile), (1, 1, 0, 1, 1))


if __name__ == "__main__":
    unittest.main()
