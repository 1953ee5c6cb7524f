"""Buffers: queues that run steps one by one."""

from fullqueue.checks import check_capacity, check_letter, check_mode, check_queue
from fullqueue.errors import BufferFailed, EmptyQueue, FullQueue, InvalidInteger
from fullqueue.integers import is_int_between
from fullqueue.letters import is_letter
from fullqueue.programs import TAKE, check_sequence


class Buffer:
    """The queue of any mode. Objects are made of the classes below only."""

    MODE = None

    def __init__(self, capacity, queue=""):
        check_capacity(capacity)
        check_queue(queue, capacity)
        self._capacity = capacity
        self._queue = queue

    @property
    def capacity(self):
        return self._capacity

    @property
    def queue(self):
        """The letters kept, the front first."""
        return self._queue

    @property
    def is_full(self):
        return len(self._queue) == self._capacity

    def put(self, letter):
        """Put a letter at the end."""
        check_letter(letter)
        queue, _, lost = self._after(self._queue, letter)
        self._keep(queue, letter, lost)

    def take(self):
        """Take the letter at the front and return it."""
        queue, taken, lost = self._after(self._queue, TAKE)
        self._keep(queue, TAKE, lost)
        return taken

    def run(self, sequence):
        """Do all steps of a sequence, or none of them; return the letters taken."""
        check_sequence(sequence)
        queue = self._queue
        all_taken = []
        all_lost = []
        for index, step in enumerate(sequence):
            try:
                queue, taken, lost = self._after(queue, step)
            except (EmptyQueue, FullQueue):
                raise BufferFailed(index) from None
            all_taken.append(taken)
            all_lost.append(lost)
        self._keep(queue, sequence, "".join(all_lost))
        return "".join(all_taken)

    def drain(self):
        """Take the letters one by one and yield them until the buffer is empty."""
        while len(self._queue) > 0:
            yield self.take()

    def _after(self, queue, step):
        """Return the queue after a step, the letter taken and the letter lost, or no letter."""
        if step == TAKE:
            if queue == "":
                raise EmptyQueue("there is no letter to take")
            return queue[1:], queue[0], ""
        if len(queue) < self._capacity:
            return queue + step, "", ""
        queue, lost = self._after_overflow(queue, step)
        return queue, "", lost

    def _after_overflow(self, queue, letter):
        """Return the queue after a put into this full queue, and the letter lost."""
        raise FullQueue("there is no room for a letter")

    def _keep(self, queue, steps, lost):
        """Take over the results of steps that did not fail."""
        self._queue = queue

    def _class_name(self):
        return self.__class__.__name__

    def __call__(self, sequence):
        return self.run(sequence)

    def __len__(self):
        return len(self._queue)

    def __bool__(self):
        return bool(self._queue)

    def __getitem__(self, at):
        """Return the letter at an index, the front first."""
        if not is_int_between(at, 0, len(self._queue) - 1):
            raise InvalidInteger("an index is an integer from 0 to the length - 1")
        return self._queue[at]

    def __iter__(self):
        raise TypeError("a buffer is not iterated over")

    def __contains__(self, x):
        """Return whether a value is a letter in the queue."""
        return is_letter(x) and x in self._queue

    def __eq__(self, other):
        return (
            isinstance(other, Buffer)
            and self.MODE == other.MODE
            and self._capacity == other._capacity
            and self._queue == other._queue
        )

    def __repr__(self):
        return f"{self._class_name()}({self._capacity}, {self._queue!r})"


class OldestBuffer(Buffer):
    """A full queue drops its front letter for the letter put."""

    MODE = "oldest"

    def _after_overflow(self, queue, letter):
        return queue[1:] + letter, queue[0]


class NewestBuffer(Buffer):
    """A full queue ignores the letter put."""

    MODE = "newest"

    def _after_overflow(self, queue, letter):
        return queue, letter


class StrictBuffer(Buffer):
    """A put into a full queue fails."""

    MODE = "strict"


class Recorded(Buffer):
    """A buffer that also keeps the steps that it has done and the letters that it has lost."""

    def __init__(self, capacity, queue=""):
        super().__init__(capacity, queue)
        # Lists, as it would take long to copy all earlier steps for each step.
        self._steps = []
        self._lost = []

    @property
    def steps(self):
        """The sequence of all steps done."""
        return "".join(self._steps)

    @property
    def lost(self):
        """The letters lost so far, in order."""
        return "".join(self._lost)

    def _keep(self, queue, steps, lost):
        super()._keep(queue, steps, lost)
        self._steps.append(steps)
        self._lost.append(lost)


class RecordedOldest(Recorded, OldestBuffer):
    """A recorded buffer of mode oldest."""


class RecordedNewest(Recorded, NewestBuffer):
    """A recorded buffer of mode newest."""


class RecordedStrict(Recorded, StrictBuffer):
    """A recorded buffer of mode strict."""


def make_buffer(mode, capacity, queue="", *, recorded=False):
    """Return a buffer of a mode."""
    check_mode(mode)
    if mode == "oldest":
        return RecordedOldest(capacity, queue) if recorded else OldestBuffer(capacity, queue)
    if mode == "newest":
        return RecordedNewest(capacity, queue) if recorded else NewestBuffer(capacity, queue)
    return RecordedStrict(capacity, queue) if recorded else StrictBuffer(capacity, queue)
