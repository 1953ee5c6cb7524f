import random
import unittest

from fullqueue.errors import InvalidInteger, InvalidProgram, LimitExceeded
from fullqueue.profiles import Profile
from fullqueue.programs import count_steps, is_program, is_sequence, last_puts, repeat, write_out
from tests.samples import (
    HUGE, NO_INTEGERS, NO_PROGRAMS, OTHER_KINDS, PROGRAMS, accepts, expand, mutations, nest, random_programs,
)


class KindsTest(unittest.TestCase):
    def test_programs(self):
        for value in PROGRAMS:
            self.assertIs(is_program(value), True, value)
        for value in NO_PROGRAMS + OTHER_KINDS:
            self.assertIs(is_program(value), False, value)

    def test_depth_counts_along_one_nest_only(self):
        self.assertIs(is_program(nest(20) * 3 + "a" + nest(20)), True)
        self.assertIs(is_program("(" + nest(19) * 3 + ")2"), True)
        self.assertIs(is_program("(a" + nest(19) + nest(20) + ")2"), False)

    def test_changed_texts(self):
        source = random.Random(5)
        texts = [text for text in PROGRAMS if len(text) < 200]
        texts += [text for text in NO_PROGRAMS if text.isascii() and len(text) < 200]
        texts += random_programs(200, seed=6)
        for text in texts:
            for changed in mutations(text, source):
                self.assertIs(is_program(changed), accepts(changed), changed)
            self.assertIs(is_program(text), accepts(text), text)

    def test_sequences(self):
        for value in ("", "a", "-", "z-a", "--", "abcdefghijklmnopqrstuvwxyz-", "a-" * 2000):
            self.assertIs(is_sequence(value), True)
        for value in ("(a)1", "()0", "a(b)2", "(", ")", "1", "a1", "A", "a b", "a-\n", "\n", "_", "\xe4") + OTHER_KINDS:
            self.assertIs(is_sequence(value), False, value)

    def test_changed_sequences(self):
        source = random.Random(7)
        for text in ("", "a", "-", "ab-", "a--b", "zz-a"):
            for changed in mutations(text, source):
                expected = all(sign in "abcdefghijklmnopqrstuvwxyz-" for sign in changed)
                self.assertIs(is_sequence(changed), expected, changed)

    def test_every_function_rejects_other_values(self):
        for value in NO_PROGRAMS + OTHER_KINDS:
            for call in (
                lambda: count_steps(value), lambda: write_out(value), lambda: last_puts(value, 1),
                lambda: repeat(value, 1), lambda: Profile.of(value),
            ):
                with self.assertRaises(InvalidProgram):
                    call()

    def test_arguments_by_name(self):
        self.assertIs(is_program(value="(a)2"), True)
        self.assertIs(is_sequence(value="(a)2"), False)
        self.assertEqual(count_steps(program="(a)2"), 2)
        self.assertEqual(write_out(program="(a)2"), "aa")
        self.assertEqual(last_puts(count=1, program="(ab)2"), "b")
        self.assertEqual(repeat(count=3, program="a"), "(a)3")


class StepsTest(unittest.TestCase):
    def test_example(self):
        self.assertEqual(write_out("a(b-)2"), "ab-b-")

    def test_random_programs_are_written_out(self):
        for program in random_programs(500, seed=2):
            self.assertEqual(write_out(program), expand(program))
            self.assertEqual(count_steps(program), len(expand(program)))

    def test_edges(self):
        for program, steps in (("", ""), ("()5", ""), ("(a)0", ""), ("a(b)0-", "a-"), ("(a(b)2)1", "abb")):
            self.assertEqual(write_out(program), steps)
            self.assertEqual(count_steps(program), len(steps))

    def test_large_counts(self):
        self.assertEqual(count_steps(f"(ab-){HUGE}"), 3 * HUGE)
        self.assertEqual(count_steps(f"-((ab)3-){HUGE}a"), 7 * HUGE + 2)
        self.assertEqual(count_steps(nest(20, "ab-", HUGE)), 3 * HUGE ** 20)
        self.assertEqual(count_steps(f"(((a){HUGE}){HUGE}b)2((-){HUGE})0"), 2 * HUGE ** 2 + 2)
        self.assertEqual(count_steps(nest(20, "(a)0", HUGE)[1:-len(f"){HUGE}")]), 0)

    def test_large_counts_without_steps_are_written_out(self):
        for program in (f"(){HUGE}", nest(20, "", HUGE), f"((a){HUGE})0", f"((a)0){HUGE}", f"(((a){HUGE})0(b)0){HUGE}"):
            self.assertEqual(write_out(program), "")
            self.assertEqual(count_steps(program), 0)
        self.assertEqual(write_out(f"a((b)0){HUGE}((b){HUGE})0-"), "a-")

    def test_4000_steps_and_4001(self):
        self.assertEqual(write_out("(a)4000"), "a" * 4000)
        self.assertEqual(write_out("((ab-)10(-)10)100"), ("ab-" * 10 + "-" * 10) * 100)
        self.assertEqual(write_out("a" * 4000), "a" * 4000)
        for program, size in (
            ("(a)4001", 4001), ("(a)4000b", 4001), ("((ab)2-)1000", 5000), (f"(a){HUGE}", HUGE),
            (nest(20, "ab-", HUGE), 3 * HUGE ** 20), ("-(a)4000(b)0", 4001),
        ):
            with self.assertRaises(LimitExceeded) as caught:
                write_out(program)
            self.assertEqual(caught.exception.size, size)


class LastPutsTest(unittest.TestCase):
    def test_example(self):
        self.assertEqual(last_puts("(ab-)5c", 4), "babc")

    def test_random_programs(self):
        for program in random_programs(300, seed=3):
            puts = expand(program).replace("-", "")
            for count in (0, 1, 2, 3, 7, len(puts), len(puts) + 1, 3999, 4000):
                self.assertEqual(last_puts(program, count), puts[max(0, len(puts) - count):])

    def test_edges(self):
        for program in ("", "-", "(-)5", "(a)0", f"(-){HUGE}", nest(20, "", HUGE), f"((ab){HUGE})0"):
            for count in (0, 1, 4000):
                self.assertEqual(last_puts(program, count), "")
        self.assertEqual(last_puts(f"(ab){HUGE}", 0), "")
        self.assertEqual(last_puts("a-b--", 1), "b")
        self.assertEqual(last_puts("a-b--", 2), "ab")

    def test_large_counts_are_cut_exactly(self):
        for program in ("(ab-){0}c", "x((ab)3-c){0}", "((a){0}b)3--", "((-){0}ab(c)0){0}-d", "(a(bc){0}(d)2){0}"):
            large = program.format(HUGE)
            # 200 rounds already put as many letters as are asked for.
            puts = expand(program.format(200)).replace("-", "")
            for count in (0, 1, 2, 5, 50, 200):
                self.assertEqual(last_puts(large, count), puts[len(puts) - count:])
        self.assertEqual(last_puts(f"(ab-){HUGE}c", 4000), "b" + "ab" * 1999 + "c")
        self.assertEqual(last_puts(f"((ab-){HUGE}c){HUGE}", 4000), "b" + "ab" * 1999 + "c")
        self.assertEqual(last_puts(f"((ab-){HUGE}c){HUGE}((xyz)2-){HUGE}", 4000), "z" + "xyz" * 1333)
        self.assertEqual(last_puts(f"((ab-){HUGE}c){HUGE}(xyz)2-", 10), "babcxyzxyz"[-10:])
        self.assertEqual(last_puts(nest(20, "abc-", HUGE), 4000), "c" + "abc" * 1333)
        self.assertEqual(last_puts(f"(a(b)0((c){HUGE})0){HUGE}", 4000), "a" * 4000)

    def test_long_texts(self):
        program = f"((ab){HUGE}c-){HUGE}" * 50
        self.assertEqual(last_puts(program, 4000), "b" + "ab" * 1999 + "c")
        self.assertEqual(last_puts("(a-)2" * 800, 4000), "a" * 1600)

    def test_numbers_of_letters_that_are_rejected(self):
        for count in (-1, 4001, HUGE, "2", "x") + NO_INTEGERS:
            with self.assertRaises(InvalidInteger):
                last_puts("(ab)2", count)

    def test_the_program_is_checked_first(self):
        for count in (-1, 4001, None, True):
            with self.assertRaises(InvalidProgram):
                last_puts("(ab)", count)


class RepeatTest(unittest.TestCase):
    def test_programs_are_repeated(self):
        self.assertEqual(repeat("", 0), "()0")
        self.assertEqual(repeat("ab-", 2), "(ab-)2")
        self.assertEqual(repeat("(a)2b", 10), "((a)2b)10")
        self.assertEqual(repeat("a", HUGE), f"(a){HUGE}")
        for program in random_programs(100, seed=4):
            repeated = repeat(program, 3)
            self.assertIs(is_program(repeated), True)
            self.assertEqual(write_out(repeated), 3 * write_out(program))

    def test_depths_20_and_21(self):
        self.assertEqual(repeat(nest(19), 7), "(" + nest(19) + ")7")
        for program in (nest(20), nest(20, "", 0), "a" + nest(20) + "(b)2", nest(3) + nest(20)):
            with self.assertRaises(LimitExceeded) as caught:
                repeat(program, 1)
            self.assertEqual(caught.exception.size, 21)

    def test_counts_that_are_rejected(self):
        for count in (-1, HUGE + 1, 10 ** 59, "2") + NO_INTEGERS:
            with self.assertRaises(InvalidInteger):
                repeat("a", count)

    def test_order_of_errors(self):
        for count in (-1, None, True, HUGE + 1):
            with self.assertRaises(InvalidProgram):
                repeat(nest(21), count)
            with self.assertRaises(InvalidInteger):
                repeat(nest(20), count)


if __name__ == "__main__":
    unittest.main()
