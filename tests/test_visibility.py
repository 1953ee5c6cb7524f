import random
import unittest

from fullqueue.errors import InvalidCapacity, InvalidMode, InvalidProgram, LimitExceeded
from fullqueue.visibility import exchangeable, unseen_puts
from tests.samples import (
    MODES, NO_CAPACITIES, NO_MODES, OTHER_KINDS, assert_errors_in_order, different_letters, queues, sequences, simulate,
)

NO_SEQUENCES = ("(a)2", "()0", "A", "a b", "a\n", "2", "(", "a" * 300 + "A") + OTHER_KINDS

ALPHABET = "abcdefghijklmnopqrstuvwxyz"


def results(sequence, capacity, mode, some_queues):
    """The results for queues by doing all steps, None where the sequence fails."""
    found = [simulate(sequence, capacity, mode, queue) for queue in some_queues]
    return [None if isinstance(result, int) else result[0] for result in found]


def one_queue_each(capacity):
    """A queue for each length, with letters that differ from those of the sequences as long as there are enough."""
    return [different_letters(length) for length in range(capacity + 1)]


def unseen_by_trying(sequence, capacity, mode, some_queues, letters=ALPHABET):
    expected = results(sequence, capacity, mode, some_queues)
    return [
        at for at, step in enumerate(sequence) if step != "-" and all(
            results(sequence[:at] + letter + sequence[at + 1:], capacity, mode, some_queues) == expected for letter in letters
        )
    ]


def exchanged(sequence, at):
    return sequence[:at] + sequence[at + 1] + sequence[at] + sequence[at + 2:]


def exchangeable_by_trying(sequence, capacity, mode, some_queues):
    expected = results(sequence, capacity, mode, some_queues)
    return [
        at for at in range(len(sequence) - 1)
        if results(exchanged(sequence, at), capacity, mode, some_queues) == expected
    ]


def unseen_by_indices(sequence, capacity, mode):
    """Follow the indices of the puts instead of their letters, from each start length."""
    seen = set()
    for length in range(capacity + 1):
        places = [None] * length
        for at, step in enumerate(sequence):
            if step == "-":
                if not places:
                    break
                places.pop(0)
            elif len(places) < capacity:
                places.append(at)
            elif mode == "oldest":
                places = places[1:] + [at]
            elif mode == "strict":
                break
        else:
            seen.update(places)
    return [at for at, step in enumerate(sequence) if step != "-" and at not in seen]


def random_sequence(source, steps, size):
    return "".join(source.choices(steps, k=size))


class UnseenPutsTest(unittest.TestCase):
    def test_examples(self):
        self.assertEqual(unseen_puts("ab-", 2, "oldest"), [0])
        self.assertEqual(unseen_puts("", 2, "oldest"), [])
        self.assertEqual(unseen_puts("---", 2, "newest"), [])

    def test_a_put_into_a_full_queue(self):
        self.assertEqual(unseen_puts("abc", 1, "oldest"), [0, 1])
        self.assertEqual(unseen_puts("abc", 1, "newest"), [1, 2])
        # The sequence fails on every queue, so no letter is ever seen.
        self.assertEqual(unseen_puts("abc", 1, "strict"), [0, 1, 2])
        self.assertEqual(unseen_puts("abc", 3, "oldest"), [])
        self.assertEqual(unseen_puts("abc", 3, "newest"), [])
        self.assertEqual(unseen_puts("abc", 3, "strict"), [])
        self.assertEqual(unseen_puts("a" + "-" * 5, 3, "oldest"), [0])

    def test_equal_letters_count_one_by_one(self):
        self.assertEqual(unseen_puts("aaa", 2, "oldest"), [0])
        self.assertEqual(unseen_puts("aaa", 2, "newest"), [2])
        self.assertEqual(unseen_puts("bab", 2, "oldest"), [0])

    def test_every_short_sequence_by_the_definition(self):
        for sequence in sequences(4, "ab-"):
            for capacity in (1, 2):
                for mode in MODES:
                    expected = unseen_by_trying(sequence, capacity, mode, list(queues(capacity, "ab")), "abcz")
                    self.assertEqual(unseen_puts(sequence, capacity, mode), expected, (sequence, capacity, mode))

    def test_every_short_sequence_of_one_letter(self):
        for sequence in sequences(8):
            for capacity in (1, 2, 3):
                for mode in MODES:
                    expected = unseen_by_trying(sequence, capacity, mode, one_queue_each(capacity), "b")
                    self.assertEqual(unseen_puts(sequence, capacity, mode), expected, (sequence, capacity, mode))

    def test_all_other_letters(self):
        source = random.Random(101)
        for _ in range(25):
            sequence = random_sequence(source, ALPHABET + "-" * 20, source.randrange(9))
            capacity, mode = source.randint(1, 4), source.choice(MODES)
            expected = unseen_by_trying(sequence, capacity, mode, one_queue_each(capacity))
            self.assertEqual(unseen_puts(sequence, capacity, mode), expected, (sequence, capacity, mode))

    def test_long_sequences(self):
        source = random.Random(102)
        for size in (0, 1, 30, 199, 200):
            for capacity in (1, 9, 99, 100):
                for mode in MODES:
                    for steps in ("ab-", "a-", "abc--", "xyz"):
                        sequence = random_sequence(source, steps, size)
                        expected = unseen_by_indices(sequence, capacity, mode)
                        self.assertEqual(unseen_puts(sequence, capacity, mode), expected, (sequence, capacity, mode))

    def test_200_steps(self):
        self.assertEqual(unseen_puts("a" * 200, 100, "oldest"), list(range(100)))
        self.assertEqual(unseen_puts("a" * 200, 100, "newest"), list(range(100, 200)))
        self.assertEqual(unseen_puts("a" * 200, 100, "strict"), list(range(200)))
        self.assertEqual(unseen_puts("a-" * 100, 100, "strict"), [0])

    def test_results_are_new(self):
        found = unseen_puts("ab-", 2, "oldest")
        self.assertIs(type(found), list)
        found.append(7)
        self.assertEqual(unseen_puts("ab-", 2, "oldest"), [0])


class ExchangeableTest(unittest.TestCase):
    def test_examples(self):
        self.assertEqual(exchangeable("aab", 3, "oldest"), [0])
        for sequence in ("", "a", "-"):
            self.assertEqual(exchangeable(sequence, 3, "newest"), [])

    def test_small_cases(self):
        for sequence, capacity, mode, expected in (
            ("aa", 1, "oldest", [0]), ("ab", 1, "oldest", []), ("ab", 1, "newest", []), ("ab", 1, "strict", [0]),
            ("--", 1, "oldest", [0]), ("a-", 1, "oldest", []), ("abc", 1, "oldest", [0]), ("abc", 1, "newest", [1]),
            ("-ab-", 2, "strict", []), ("ab--", 2, "strict", [0, 2]), ("a--b", 1, "strict", [1]),
        ):
            self.assertEqual(exchangeable(sequence, capacity, mode), expected, (sequence, capacity, mode))

    def test_every_short_sequence_by_the_definition(self):
        for sequence in sequences(5, "ab-"):
            for capacity in (1, 2):
                for mode in MODES:
                    expected = exchangeable_by_trying(sequence, capacity, mode, list(queues(capacity, "ab")))
                    self.assertEqual(exchangeable(sequence, capacity, mode), expected, (sequence, capacity, mode))

    def test_every_short_sequence_of_one_letter(self):
        for sequence in sequences(8):
            for capacity in (1, 2, 3, 4):
                for mode in MODES:
                    expected = exchangeable_by_trying(sequence, capacity, mode, one_queue_each(capacity))
                    self.assertEqual(exchangeable(sequence, capacity, mode), expected, (sequence, capacity, mode))

    def test_longer_sequences(self):
        source = random.Random(103)
        for _ in range(150):
            sequence = random_sequence(source, "abc---", source.randrange(25))
            capacity, mode = source.randint(1, 9), source.choice(MODES)
            expected = exchangeable_by_trying(sequence, capacity, mode, one_queue_each(capacity))
            self.assertEqual(exchangeable(sequence, capacity, mode), expected, (sequence, capacity, mode))

    def test_long_sequences(self):
        source = random.Random(104)
        for capacity in (1, 10, 100):
            some_queues = one_queue_each(capacity)
            for mode in MODES:
                sequence = random_sequence(source, source.choice(("ab-", "abc---", "a-")), 200)
                found = exchangeable(sequence, capacity, mode)
                self.assertEqual(found, sorted(set(found)))
                expected = results(sequence, capacity, mode, some_queues)
                for at in [0, 198] + source.sample(range(199), 4):
                    same = results(exchanged(sequence, at), capacity, mode, some_queues) == expected
                    self.assertEqual(at in found, same, (sequence, capacity, mode, at))

    def test_200_steps(self):
        for mode in MODES:
            self.assertEqual(exchangeable("-" * 200, 100, mode), list(range(199)))
            self.assertEqual(exchangeable("a" * 200, 100, mode), list(range(199)))
        self.assertEqual(exchangeable("ab" * 100, 100, "oldest"), list(range(99)))
        self.assertEqual(exchangeable("ab" * 100, 100, "newest"), list(range(100, 199)))
        self.assertEqual(exchangeable("ab" * 100, 100, "strict"), list(range(199)))

    def test_results_are_new(self):
        found = exchangeable("aab", 3, "oldest")
        self.assertIs(type(found), list)
        found.clear()
        self.assertEqual(exchangeable("aab", 3, "oldest"), [0])


class ArgumentsTest(unittest.TestCase):
    def test_order_of_errors(self):
        for function in (unseen_puts, exchangeable):
            for sequence in ("aab", "a" * 201):
                assert_errors_in_order(self, function, (
                    ("sequence", sequence, NO_SEQUENCES, InvalidProgram),
                    ("capacity", 3, NO_CAPACITIES, InvalidCapacity),
                    ("mode", "oldest", NO_MODES, InvalidMode),
                ))

    def test_201_steps(self):
        for function in (unseen_puts, exchangeable):
            for sequence in ("a" * 201, "-" * 201, "ab-" * 67, "a" * 1000, "-a" * 2000):
                for mode in MODES:
                    with self.assertRaises(LimitExceeded) as caught:
                        function(sequence, 1, mode)
                    self.assertEqual(caught.exception.size, len(sequence))
            self.assertGreater(len(function("ab-" * 66 + "--", 1, "oldest")), 0)

    def test_arguments_by_name(self):
        self.assertEqual(unseen_puts(mode="oldest", capacity=2, sequence="ab-"), [0])
        self.assertEqual(exchangeable(mode="oldest", capacity=3, sequence="aab"), [0])


if __name__ == "__main__":
    unittest.main()
