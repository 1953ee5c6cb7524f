import random
import unittest

from fullqueue.buffers import (
    Buffer, NewestBuffer, OldestBuffer, Recorded, RecordedNewest, RecordedOldest, RecordedStrict, StrictBuffer,
    make_buffer,
)
from fullqueue.errors import (
    BufferFailed, EmptyQueue, FullQueue, InvalidCapacity, InvalidInteger, InvalidLetter, InvalidMode, InvalidProgram,
    InvalidQueue,
)
from tests.samples import (
    HUGE, MODES, NO_CAPACITIES, NO_INTEGERS, NO_MODES, NO_PROGRAMS, OTHER_KINDS, assert_errors_in_order, queues,
    sequences, simulate,
)

PLAIN = {"oldest": OldestBuffer, "newest": NewestBuffer, "strict": StrictBuffer}
RECORDED = {"oldest": RecordedOldest, "newest": RecordedNewest, "strict": RecordedStrict}

NO_LETTERS = ("", "ab", "A", "-", "a ", "a-", "1", "\n", "\xe4") + OTHER_KINDS
NO_QUEUES = ("A", "a-", "-", "a b", "a\n", "1", "\xe4", "abcd", "a" * 101) + OTHER_KINDS


def makers():
    """Yield the mode and a class for each of the six classes."""
    for classes in (PLAIN, RECORDED):
        yield from classes.items()


def state(buffer):
    """All that a buffer shows of what it keeps."""
    kept = (buffer.capacity, buffer.queue, buffer.is_full, len(buffer), bool(buffer), repr(buffer))
    return kept + ((buffer.steps, buffer.lost) if isinstance(buffer, Recorded) else ())


class CreationTest(unittest.TestCase):
    def test_properties(self):
        for mode, made in makers():
            for capacity in (1, 2, 3, 99, 100):
                for length in {0, 1, capacity - 1, capacity}:
                    buffer = made(capacity, ("ab" * 50)[:length])
                    self.assertEqual(buffer.capacity, capacity)
                    self.assertEqual(buffer.queue, ("ab" * 50)[:length])
                    self.assertIs(buffer.is_full, length == capacity)
                    self.assertEqual(buffer.MODE, mode)
                    self.assertEqual(made.MODE, mode)

    def test_the_queue_is_empty_by_default(self):
        for mode, made in makers():
            self.assertEqual(made(3).queue, "")
            self.assertEqual(make_buffer(mode, 3).queue, "")

    def test_classes(self):
        for made in PLAIN.values():
            self.assertEqual(made.__bases__, (Buffer,))
        for mode, made in RECORDED.items():
            self.assertEqual(set(made.__bases__), {Recorded, PLAIN[mode]})
            self.assertTrue(issubclass(made, Buffer))
        for name in ("capacity", "queue", "is_full"):
            self.assertIsInstance(vars(Buffer)[name], property)
        for name in ("steps", "lost"):
            self.assertIsInstance(vars(Recorded)[name], property)

    def test_properties_are_not_assigned(self):
        buffer = RecordedOldest(2, "a")
        for name in ("capacity", "queue", "is_full", "steps", "lost"):
            with self.assertRaises(AttributeError):
                setattr(buffer, name, 1)

    def test_make_buffer(self):
        for mode in MODES:
            for recorded, classes in ((False, PLAIN), (True, RECORDED)):
                buffer = make_buffer(mode, 3, "ab", recorded=recorded)
                self.assertIs(type(buffer), classes[mode])
                self.assertEqual((buffer.capacity, buffer.queue), (3, "ab"))
            self.assertIs(type(make_buffer(mode, 3)), PLAIN[mode])
            self.assertIs(type(make_buffer(queue="a", capacity=3, mode=mode)), PLAIN[mode])
            with self.assertRaises(TypeError):
                make_buffer(mode, 3, "ab", True)

    def test_order_of_errors(self):
        capacities = ("capacity", 3, NO_CAPACITIES, InvalidCapacity)
        contents = ("queue", "abc", NO_QUEUES, InvalidQueue)
        for _, made in makers():
            assert_errors_in_order(self, made, (capacities, contents))
        modes = ("mode", "newest", NO_MODES, InvalidMode)
        for recorded in (False, True):
            def make(mode, capacity, queue):
                return make_buffer(mode, capacity, queue, recorded=recorded)
            assert_errors_in_order(self, make, (modes, capacities, contents))
        assert_errors_in_order(self, make_buffer, (modes, capacities, contents))

    def test_a_capacity_without_a_queue_is_checked(self):
        for _, made in makers():
            for value in NO_CAPACITIES:
                with self.assertRaises(InvalidCapacity):
                    made(value)

    def test_a_queue_must_fit_in(self):
        for _, made in makers():
            with self.assertRaises(InvalidQueue):
                made(1, "ab")
            with self.assertRaises(InvalidQueue):
                made(100, "a" * 101)


class StepsTest(unittest.TestCase):
    def test_put(self):
        for mode, full in (("oldest", "bc"), ("newest", "ab")):
            for made in (PLAIN[mode], RECORDED[mode]):
                buffer = made(2)
                for letter, queue in (("a", "a"), ("b", "ab"), ("c", full)):
                    self.assertIsNone(buffer.put(letter))
                    self.assertEqual(buffer.queue, queue)
                self.assertIsNone(buffer.put(letter="z"))

    def test_a_strict_put_into_a_full_queue_fails(self):
        for made in (StrictBuffer, RecordedStrict):
            for queue in ("a", "ab", "abc" * 33 + "d"):
                buffer = made(len(queue), queue)
                before = state(buffer)
                with self.assertRaises(FullQueue) as caught:
                    buffer.put("x")
                self.assertIs(type(caught.exception), FullQueue)
                self.assertEqual(state(buffer), before)

    def test_values_that_are_no_letters(self):
        for mode, made in makers():
            for queue in ("", "a", "ab"):
                buffer = made(2, queue)
                before = state(buffer)
                for value in NO_LETTERS:
                    with self.assertRaises(InvalidLetter):
                        buffer.put(value)
                self.assertEqual(state(buffer), before)

    def test_take(self):
        for _, made in makers():
            buffer = made(3, "abc")
            self.assertEqual([buffer.take(), buffer.take(), buffer.queue, buffer.take()], ["a", "b", "c", "c"])
            before = state(buffer)
            with self.assertRaises(EmptyQueue) as caught:
                buffer.take()
            self.assertIs(type(caught.exception), EmptyQueue)
            self.assertEqual(state(buffer), before)

    def test_drain(self):
        for _, made in makers():
            buffer = made(100, "ab" * 50)
            letters = buffer.drain()
            self.assertEqual(buffer.queue, "ab" * 50)
            self.assertEqual(next(letters), "a")
            self.assertEqual(buffer.queue, "b" + "ab" * 49)
            self.assertEqual("".join(letters), "b" + "ab" * 49)
            self.assertEqual(buffer.queue, "")
            self.assertEqual(list(buffer.drain()), [])
            if isinstance(buffer, Recorded):
                self.assertEqual((buffer.steps, buffer.lost), ("-" * 100, ""))


class RunTest(unittest.TestCase):
    def assert_run(self, made, mode, capacity, queue, sequence):
        buffer = made(capacity, queue)
        before = state(buffer)
        expected = simulate(sequence, capacity, mode, queue)
        if isinstance(expected, int):
            for run in (buffer.run, buffer):
                with self.assertRaises(BufferFailed) as caught:
                    run(sequence)
                self.assertEqual(caught.exception.index, expected)
                self.assertEqual(state(buffer), before)
        else:
            self.assertEqual(buffer.run(sequence), expected[1])
            self.assertEqual(buffer.queue, expected[0])
            called = made(capacity, queue)
            self.assertEqual(called(sequence), expected[1])
            self.assertEqual(state(called), state(buffer))
            if isinstance(buffer, Recorded):
                self.assertEqual((buffer.steps, buffer.lost), (sequence, expected[2]))

    def test_every_short_sequence_on_every_short_queue(self):
        for sequence in sequences(5, "ab-"):
            for capacity in (1, 2):
                for queue in queues(capacity):
                    for mode, made in makers():
                        self.assert_run(made, mode, capacity, queue, sequence)

    def test_random_sequences(self):
        source = random.Random(31)
        for _ in range(400):
            sequence = "".join(source.choices("abcd-----"[source.randrange(3):], k=source.randrange(60)))
            capacity = source.choice((1, 2, 5, 100))
            queue = "".join(source.choices("xyz", k=source.randint(0, capacity)))
            for mode, made in makers():
                self.assert_run(made, mode, capacity, queue, sequence)

    def test_steps_one_by_one_and_at_once(self):
        source = random.Random(32)
        for mode, made in makers():
            stepwise, at_once = made(3), made(3)
            for _ in range(200):
                sequence = "".join(source.choices("abc--", k=4))
                taken = ""
                try:
                    taken = at_once.run(sequence)
                except BufferFailed:
                    continue
                letters = [stepwise.take() if step == "-" else stepwise.put(step) for step in sequence]
                self.assertEqual("".join(letter for letter in letters if letter), taken)
                self.assertEqual(state(stepwise), state(at_once))

    def test_edges(self):
        for mode, made in makers():
            for capacity, queue in ((1, ""), (1, "a"), (100, ""), (100, "a" * 100)):
                self.assert_run(made, mode, capacity, queue, "")
                self.assert_run(made, mode, capacity, queue, "b" * 101 + "-" * 101)
                self.assert_run(made, mode, capacity, queue, "-" * 100 + "b" * 100)
                self.assert_run(made, mode, capacity, queue, "b-" * 2000)
            self.assertEqual(made(2, "a").run(sequence="b-"), "a")
            self.assertEqual(made(2, "a")(sequence="b-"), "a")

    def test_programs_and_other_values_are_no_sequences(self):
        for _, made in makers():
            buffer = made(2, "a")
            before = state(buffer)
            for value in ("()0", "(a)1", "a(-)1", "---(", "zzz)") + NO_PROGRAMS + OTHER_KINDS:
                for run in (buffer.run, buffer):
                    with self.assertRaises(InvalidProgram):
                        run(value)
            self.assertEqual(state(buffer), before)


class ContainerTest(unittest.TestCase):
    def test_len_and_truth(self):
        for _, made in makers():
            for length in (0, 1, 2, 99, 100):
                buffer = made(100, "a" * length)
                self.assertEqual(len(buffer), length)
                self.assertIs(bool(buffer), length > 0)

    def test_items(self):
        for _, made in makers():
            buffer = made(4, "abc")
            self.assertEqual([buffer[0], buffer[1], buffer[2]], ["a", "b", "c"])
            for value in (3, 4, 100, -1, -3, HUGE, slice(0, 1), "a") + NO_INTEGERS:
                with self.assertRaises(InvalidInteger):
                    buffer[value]
            with self.assertRaises(InvalidInteger):
                made(4)[0]

    def test_in(self):
        for _, made in makers():
            buffer = made(4, "abc")
            for letter in "abc":
                self.assertIs(letter in buffer, True)
            for value in ("d", "", "ab", "bc", "abc", "-", "A") + OTHER_KINDS:
                self.assertIs(value in buffer, False)
            for value in ("a", "") + OTHER_KINDS:
                self.assertIs(value in made(4), False)

    def test_equality(self):
        samples = [(capacity, queue) for capacity in (1, 2, 3) for queue in ("", "a", "b", "ab") if len(queue) <= capacity]
        for mode, made in makers():
            for other_mode, other_made in makers():
                for sample in samples:
                    for other_sample in samples:
                        expected = mode == other_mode and sample == other_sample
                        self.assertIs(made(*sample) == other_made(*other_sample), expected)
                        self.assertIs(made(*sample) != other_made(*other_sample), not expected)

    def test_equality_with_other_values(self):
        for _, made in makers():
            buffer = made(2, "ab")
            for value in ("ab", repr(buffer), (2, "ab"), ["a", "b"]) + OTHER_KINDS:
                self.assertIs(buffer == value, False)
                self.assertIs(buffer != value, True)

    def test_records_do_not_matter_for_equality(self):
        one, other = RecordedOldest(2, "ab"), RecordedOldest(2, "b")
        one.run("-b-")
        self.assertTrue(one == other)
        self.assertTrue(other == one)
        self.assertTrue(one == OldestBuffer(2, "b"))
        self.assertTrue(OldestBuffer(2, "b") == one)

    def test_repr(self):
        self.assertEqual(repr(OldestBuffer(3, "ab")), "OldestBuffer(3, 'ab')")
        self.assertEqual(repr(NewestBuffer(1)), "NewestBuffer(1, '')")
        self.assertEqual(repr(StrictBuffer(100, "z")), "StrictBuffer(100, 'z')")
        self.assertEqual(repr(RecordedOldest(3, "ab")), "RecordedOldest(3, 'ab')")
        self.assertEqual(repr(RecordedNewest(3, "ab")), "RecordedNewest(3, 'ab')")
        self.assertEqual(repr(RecordedStrict(1, "")), "RecordedStrict(1, '')")

    def test_buffers_are_not_iterated_over(self):
        for _, made in makers():
            with self.assertRaises(TypeError):
                list(made(2, "ab"))


class RecordsTest(unittest.TestCase):
    def test_records_begin_empty(self):
        for mode, made in RECORDED.items():
            for queue in ("", "ab"):
                buffer = made(2, queue)
                self.assertEqual((buffer.steps, buffer.lost), ("", ""))

    def test_steps_and_lost_letters(self):
        for mode, lost in (("oldest", "abc"), ("newest", "cde")):
            buffer = RECORDED[mode](2, "a")
            for letter in "bc":
                buffer.put(letter)
            buffer.run("d")
            buffer("e")
            self.assertEqual((buffer.steps, buffer.lost), ("bcde", lost))
            buffer.take()
            buffer.run("-")
            self.assertEqual((buffer.steps, buffer.lost), ("bcde--", lost))

    def test_failed_steps_and_runs_are_not_recorded(self):
        buffer = RecordedStrict(2)
        for failing, error in (
            (buffer.take, EmptyQueue), (lambda: buffer.run("ab-cd"), BufferFailed), (lambda: buffer("-"), BufferFailed),
            (lambda: buffer.put("-"), InvalidLetter), (lambda: buffer.run("(a)2"), InvalidProgram),
        ):
            with self.assertRaises(error):
                failing()
            self.assertEqual((buffer.steps, buffer.lost), ("", ""))
        buffer.run("ab")
        with self.assertRaises(FullQueue):
            buffer.put("c")
        self.assertEqual((buffer.steps, buffer.lost), ("ab", ""))

    def test_lost_letters_of_a_failed_run_are_not_recorded(self):
        for mode, lost in (("oldest", "a"), ("newest", "c")):
            buffer = RECORDED[mode](2, "ab")
            buffer.put("c")
            with self.assertRaises(BufferFailed) as caught:
                buffer.run("def---")
            self.assertEqual(caught.exception.index, 5)
            self.assertEqual((buffer.steps, buffer.lost), ("c", lost))

    def test_recorded_buffers_do_not_share_anything(self):
        one, other = RecordedNewest(1), RecordedNewest(1)
        one.run("ab")
        self.assertEqual((other.steps, other.lost, other.queue), ("", "", ""))

    def test_many_single_steps(self):
        buffer = RecordedOldest(1)
        for _ in range(4000):
            buffer.put("a")
        self.assertEqual((buffer.steps, buffer.lost), ("a" * 4000, "a" * 3999))


if __name__ == "__main__":
    unittest.main()
