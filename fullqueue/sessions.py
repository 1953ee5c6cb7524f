"""Sessions: a queue that users change by runs of programs, which can be taken back."""

from fullqueue.buffers import make_buffer
from fullqueue.checks import check_capacity, check_mode, check_queue, check_user
from fullqueue.errors import BufferFailed, NothingToUndo, RunFailed
from fullqueue.integers import is_int_between
from fullqueue.programs import check_program, write_out


class Session:
    """One queue, the changes that were not undone, and the log of all letters lost by them."""

    def __init__(self, capacity, mode, queue=""):
        check_capacity(capacity)
        check_mode(mode)
        check_queue(queue, capacity)
        self._capacity = capacity
        self._mode = mode
        self._queue = queue
        # Tuples of the user, the tuple of the programs, the queue before and the letters lost.
        self._changes = []

    @property
    def capacity(self):
        return self._capacity

    @property
    def mode(self):
        return self._mode

    @property
    def queue(self):
        return self._queue

    @property
    def log(self):
        """The letters lost so far, in order."""
        return "".join([lost for _, _, _, lost in self._changes])

    def run(self, user, *programs):
        """Do all programs, or none of them; return the queue."""
        check_user(user)
        for program in programs:
            check_program(program)
        sequences = [write_out(program) for program in programs]
        buffer = make_buffer(self._mode, self._capacity, self._queue, recorded=True)
        for position, sequence in enumerate(sequences):
            try:
                buffer.run(sequence)
            except BufferFailed:
                raise RunFailed(position) from None
        self._changes.append((user, programs, self._queue, buffer.lost))
        self._queue = buffer.queue
        return self._queue

    def undo(self, *, number=1):
        """Take back as many of the latest changes as the number says."""
        if not is_int_between(number, 1, len(self._changes)):
            raise NothingToUndo("the number is an integer from 1 to the number of changes")
        _, _, self._queue, _ = self._changes[-number]
        del self._changes[-number:]

    def changes(self):
        """Yield the tuples (user, programs) of the changes that were not undone, the first one first."""
        for user, programs, _, _ in list(self._changes):
            yield (user, programs)

    def clone(self):
        """Return an independent session that is equal and has the same changes."""
        other = Session(self._capacity, self._mode, self._queue)
        other._changes = list(self._changes)
        return other

    def __len__(self):
        return len(self._changes)

    def __eq__(self, other):
        return (
            isinstance(other, Session)
            and self._capacity == other._capacity
            and self._mode == other._mode
            and self._queue == other._queue
            and self.log == other.log
        )
