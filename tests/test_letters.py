import unittest

from fullqueue.errors import InvalidCapacity
from fullqueue.letters import is_capacity, is_letter, is_mode, is_queue, is_user
from tests.samples import NO_INTEGERS, OTHER_KINDS

ALPHABET = "abcdefghijklmnopqrstuvwxyz"
NO_LETTERS = ("A", "Z", "`", "{", "-", "(", ")", "0", "9", " ", "\n", "_", "\x00", "\xe4", "\u0430", "\uff41", "\xaa")


class LettersTest(unittest.TestCase):
    def test_letters(self):
        for letter in ALPHABET:
            self.assertIs(is_letter(letter), True)
        for value in NO_LETTERS + ("", "aa", "ab", "a ", " a", "a\n") + OTHER_KINDS:
            self.assertIs(is_letter(value), False, value)

    def test_capacities(self):
        for value in range(1, 101):
            self.assertIs(is_capacity(value), True)
        for value in (0, -1, 101, 102, 10 ** 59, -10 ** 59, "a", "10") + NO_INTEGERS:
            self.assertIs(is_capacity(value), False, value)

    def test_modes(self):
        for value in ("oldest", "newest", "strict"):
            self.assertIs(is_mode(value), True)
        for value in ("", "old", "oldest ", " oldest", "Oldest", "STRICT", "oldestnewest", "newes", "s", b"strict"):
            self.assertIs(is_mode(value), False, value)
        for value in OTHER_KINDS + (["oldest"], ("oldest",)):
            self.assertIs(is_mode(value), False, value)

    def test_users(self):
        for value in ("a", "z", "ann", "abcdefgh", "zzzzzzzz"):
            self.assertIs(is_user(value), True)
        for value in ("", "abcdefghi", "Ann", "an n", "ann ", "ann\n", "a-b", "a1") + NO_LETTERS + OTHER_KINDS:
            self.assertIs(is_user(value), False, value)

    def test_queues(self):
        for value in ("", "a", "zz", ALPHABET, "x" * 100):
            self.assertIs(is_queue(value), True)
        for value in ("x" * 101, "x" * 102, "a-", "aB", "a b", "ab\n", "\nab") + NO_LETTERS + OTHER_KINDS:
            self.assertIs(is_queue(value), False, value)

    def test_queues_of_a_capacity(self):
        for capacity in (1, 2, 3, 99, 100):
            self.assertIs(is_queue("", capacity), True)
            self.assertIs(is_queue("a" * (capacity - 1), capacity), True)
            self.assertIs(is_queue("a" * capacity, capacity), True)
            self.assertIs(is_queue("a" * (capacity + 1), capacity), False)
            self.assertIs(is_queue("-" * capacity, capacity), False)
            self.assertIs(is_queue(None, capacity), False)

    def test_a_wrong_capacity_is_rejected_for_every_value(self):
        for capacity in (0, 101, -1, 10 ** 30, "a") + NO_INTEGERS:
            for value in ("", "a", "A", None, 7):
                with self.assertRaises(InvalidCapacity):
                    is_queue(value, capacity)

    def test_arguments_by_name(self):
        for function in (is_letter, is_capacity, is_mode, is_user, is_queue):
            self.assertIs(function(value=()), False)
        self.assertIs(is_queue(value="ab", capacity=2), True)
        self.assertIs(is_queue(capacity=1, value="ab"), False)

    def test_values_are_not_changed(self):
        value = ["a"]
        for function in (is_letter, is_capacity, is_mode, is_user, is_queue):
            function(value)
        self.assertEqual(value, ["a"])


if __name__ == "__main__":
    unittest.main()
