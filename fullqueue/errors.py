"""The errors of the package.

The parameters of errors may be any values, so no message shows them.
"""


class QueueError(ValueError):
    """A value is not what is asked for."""


class InvalidInteger(QueueError):
    """A value is not an integer of the range that is asked for."""


class InvalidLetter(QueueError):
    """A value is not a letter."""


class InvalidCapacity(QueueError):
    """A value is not a capacity."""


class InvalidMode(QueueError):
    """A value is not a mode."""


class InvalidQueue(QueueError):
    """A value is not a queue."""


class InvalidProgram(QueueError):
    """A value is not a program, or not a sequence."""


class InvalidUser(QueueError):
    """A value is not a user."""


class InvalidText(QueueError):
    """A value is not the text of an effect."""


class InvalidCommand(QueueError):
    """A value is not a command."""


class InvalidEffect(QueueError):
    """A value is not an effect, or has an invalid row at a position."""

    def __init__(self, position):
        super().__init__("the effect is not valid")
        self.position = position


class InvalidFacts(QueueError):
    """A value is not a list of facts, or has an invalid one at a position."""

    def __init__(self, position):
        super().__init__("the facts are not valid")
        self.position = position


class CapacityMismatch(QueueError):
    """Two capacities differ."""

    def __init__(self, first, second):
        super().__init__("the capacities differ")
        self.first = first
        self.second = second


class RunFailed(QueueError):
    """The program at a position failed."""

    def __init__(self, position):
        super().__init__("a program failed")
        self.position = position


class EmptyQueue(LookupError):
    """A take found an empty queue."""


class EffectFailed(LookupError):
    """An effect fails on the queues of a length."""

    def __init__(self, length):
        super().__init__("the effect fails on queues of this length")
        self.length = length


class BufferFailed(LookupError):
    """The step at an index failed."""

    def __init__(self, index):
        super().__init__("a step failed")
        self.index = index


class FullQueue(OverflowError):
    """A put found a full queue."""


class LimitExceeded(OverflowError):
    """A size is greater than its limit."""

    def __init__(self, size):
        super().__init__("a limit is exceeded")
        self.size = size


class NothingToUndo(RuntimeError):
    """There are not as many changes as were to be taken back."""
