"""Profiles: how the offset of a program moves."""

from fullqueue.errors import InvalidInteger
from fullqueue.integers import is_int, is_natural
from fullqueue.programs import TAKE, check_count, parts_of


class Profile:
    """The numbers of puts and takes, and the bounds of the offset."""

    def __init__(self, puts, takes, low, high, fall):
        if not all([is_natural(number) for number in (puts, takes, high, fall)]):
            raise InvalidInteger("puts, takes, high and fall are integers from 0 on")
        if not is_int(low) or low > 0:
            raise InvalidInteger("low is an integer up to 0")
        self._puts = puts
        self._takes = takes
        self._low = low
        self._high = high
        self._fall = fall

    @property
    def puts(self):
        return self._puts

    @property
    def takes(self):
        return self._takes

    @property
    def low(self):
        return self._low

    @property
    def high(self):
        return self._high

    @property
    def fall(self):
        return self._fall

    @property
    def offset(self):
        """The offset after all steps."""
        return self._puts - self._takes

    @classmethod
    def of(cls, program):
        """Return the profile of a program."""
        return cls._of_parts(parts_of(program))

    @classmethod
    def _of_parts(cls, parts):
        total = cls(0, 0, 0, 0, 0)
        for part in parts:
            if isinstance(part, str):
                total = total + cls._of_sequence(part)
            else:
                body, count = part
                total = total + cls._of_parts(body) * count
        return total

    @classmethod
    def _of_sequence(cls, sequence):
        offset = low = high = fall = 0
        for step in sequence:
            offset += -1 if step == TAKE else 1
            low = min(low, offset)
            high = max(high, offset)
            fall = max(fall, high - offset)
        takes = sequence.count(TAKE)
        return cls(len(sequence) - takes, takes, low, high, fall)

    def __add__(self, other):
        """Return the profile of one program followed by another one."""
        if not isinstance(other, Profile):
            return NotImplemented
        # The other program begins at the offset at which this one ends.
        other_low = self.offset + other._low
        other_high = self.offset + other._high
        return Profile(
            self._puts + other._puts,
            self._takes + other._takes,
            min(self._low, other_low),
            max(self._high, other_high),
            max(self._fall, other._fall, self._high - other_low),
        )

    def __mul__(self, other):
        """Return the profile of as many repetitions as the other value says."""
        check_count(other)
        if other == 0:
            return Profile(0, 0, 0, 0, 0)
        last_start = self.offset * (other - 1)
        return Profile(
            self._puts * other,
            self._takes * other,
            self._low + min(0, last_start),
            self._high + max(0, last_start),
            self._fall if other == 1 else self._repeated_fall(last_start),
        )

    def _repeated_fall(self, last_start):
        """Return the fall of two or more repetitions, the last one starting at this offset."""
        # A fall from one repetition to a later one depends on how far they are apart.
        # It is greatest either for neighbours, or for the first and the last one.
        span = self._high - self._low
        return max(self._fall, span - self.offset, span - last_start)

    def __eq__(self, other):
        return (
            isinstance(other, Profile)
            and self._puts == other._puts
            and self._takes == other._takes
            and self._low == other._low
            and self._high == other._high
            and self._fall == other._fall
        )
