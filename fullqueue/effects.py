"""Effects: what is left of a queue of each length, and what is put behind it."""

from fullqueue.checks import check_capacity, check_length, check_queue
from fullqueue.errors import CapacityMismatch, EffectFailed, InvalidEffect
from fullqueue.integers import is_int_between
from fullqueue.programs import check_count
from fullqueue.rows import end_of_row, identity_rows, is_row, power_rows, product_rows, result_of_row


class Effect:
    """One row for each start length from 0 to the capacity."""

    def __init__(self, capacity, rows):
        check_capacity(capacity)
        check_rows(rows, capacity)
        self._capacity = capacity
        self._rows = tuple(rows)

    @property
    def capacity(self):
        return self._capacity

    @property
    def rows(self):
        """The tuple of the rows."""
        return self._rows

    @classmethod
    def identity(cls, capacity):
        """Return the effect that changes no queue."""
        check_capacity(capacity)
        return cls(capacity, identity_rows(capacity))

    @classmethod
    def failing(cls, capacity):
        """Return the effect that fails on every queue."""
        check_capacity(capacity)
        return cls(capacity, [None] * (capacity + 1))

    def lengths(self):
        """Yield the tuples (start length, end length) for which the effect does not fail."""
        for length, row in enumerate(self._rows):
            if row is not None:
                yield (length, end_of_row(row))

    def power(self, exponent):
        """Return the effect of as many repetitions."""
        check_count(exponent)
        return Effect(self._capacity, power_rows(self._rows, exponent))

    def is_part_of(self, other):
        """Return whether the other effect has all rows of this one that are not None."""
        check_effect(other)
        check_same_capacity(self, other)
        return all([row is None or row == wider for row, wider in zip(self._rows, other._rows)])

    def __call__(self, queue):
        """Return the result for a queue."""
        check_queue(queue, self._capacity)
        result = result_of_row(self._rows[len(queue)], queue)
        if result is None:
            raise EffectFailed(len(queue))
        return result

    def __getitem__(self, at):
        """Return the row of a length."""
        check_length(at, self._capacity)
        return self._rows[at]

    def __iter__(self):
        raise TypeError("an effect is not iterated over")

    def __contains__(self, x):
        """Return whether a value is a length for which the effect does not fail."""
        return is_int_between(x, 0, self._capacity) and self._rows[x] is not None

    def __bool__(self):
        return any([row is not None for row in self._rows])

    def __mul__(self, other):
        """Return the effect of this one followed by the other one."""
        if not isinstance(other, Effect):
            return NotImplemented
        check_same_capacity(self, other)
        return Effect(self._capacity, product_rows(self._rows, other._rows))

    def __pow__(self, other):
        return self.power(other)

    def __eq__(self, other):
        return isinstance(other, Effect) and self._capacity == other._capacity and self._rows == other._rows

    def __repr__(self):
        return f"Effect({self._capacity}, {self._rows!r})"


def check_rows(value, capacity):
    """Raise InvalidEffect unless a value is a list or tuple of the rows of an effect."""
    if not isinstance(value, (list, tuple)) or len(value) != capacity + 1:
        raise InvalidEffect(None)
    for length, row in enumerate(value):
        if not is_row(row, length, capacity):
            raise InvalidEffect(length)


def check_effect(value):
    if not isinstance(value, Effect):
        raise InvalidEffect(None)


def check_same_capacity(one, other):
    if one.capacity != other.capacity:
        raise CapacityMismatch(one.capacity, other.capacity)
