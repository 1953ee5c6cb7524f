"""Lines: buffers of mode oldest, each of which gets the letters that leave the one before."""

from fullqueue.checks import check_capacity
from fullqueue.errors import EmptyQueue, InvalidInteger, LimitExceeded
from fullqueue.integers import is_int_between
from fullqueue.lengths import end_of, succeeds
from fullqueue.profiles import Profile
from fullqueue.programs import ending, last_letters, parts_of

MOST_BUFFERS = 8


class Line:
    """From 1 to 8 buffers. Steps go to the first one."""

    def __init__(self, *capacities):
        for capacity in capacities:
            check_capacity(capacity)
        if not 1 <= len(capacities) <= MOST_BUFFERS:
            raise LimitExceeded(len(capacities))
        self._capacities = capacities
        self._queues = ("",) * len(capacities)
        self._gone = 0

    @property
    def contents(self):
        """The tuple of the queues, the first buffer first."""
        return self._queues

    @property
    def gone(self):
        """How many letters have left the last buffer."""
        return self._gone

    def run(self, program):
        """Do all steps of a program, or none of them."""
        parts = parts_of(program)
        profile = Profile.of(program)
        if not succeeds(profile, self._capacities[0], "oldest", len(self._queues[0])):
            raise EmptyQueue("a take finds the first buffer empty")
        lengths, leaving = self._ends(profile)
        # Letters do not overtake each other, so that the last one of the line was put first.
        letters = "".join(self._queues[::-1]) + last_letters(parts, sum(self._capacities))
        self._queues = last_pieces(letters, lengths)
        self._gone += leaving

    def _ends(self, profile):
        """Return the lengths after a program that succeeds, and how many letters leave the last buffer."""
        before = len(self._queues[0])
        lengths = [end_of(profile, self._capacities[0], before)]
        leaving = before + profile.puts - lengths[0]
        for capacity, queue in zip(self._capacities[1:], self._queues[1:]):
            # Only puts reach the other buffers.
            length = min(capacity, len(queue) + leaving)
            leaving = len(queue) + leaving - length
            lengths.append(length)
        return lengths, leaving

    def __len__(self):
        return len(self._capacities)

    def __getitem__(self, at):
        """Return the queue of a buffer."""
        if not is_int_between(at, 0, len(self._queues) - 1):
            raise InvalidInteger("an index is an integer from 0 to the number of buffers - 1")
        return self._queues[at]

    def __iter__(self):
        raise TypeError("a line is not iterated over")


def last_pieces(text, lengths):
    """Return pieces of these lengths, the first one from the end of a text, the next one before it, and so on."""
    pieces = []
    for length in lengths:
        pieces.append(ending(text, length))
        text = text[:len(text) - length]
    return tuple(pieces)
