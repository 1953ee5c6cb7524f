"""Which effect, and which capacity, gives known results."""

from fullqueue.checks import check_capacity, check_mode
from fullqueue.effects import Effect
from fullqueue.errors import InvalidCapacity, InvalidFacts
from fullqueue.letters import MOST_CAPACITY, is_queue
from fullqueue.profiles import Profile
from fullqueue.programs import parts_of
from fullqueue.rows import result_of_row
from fullqueue.running import program_rows


def test_queues(capacity):
    """Yield the queues whose results determine an effect."""
    check_capacity(capacity)
    yield ""
    for length in range(1, capacity + 1):
        yield "a" * length
        yield "b" * length


def identify(capacity, answers):
    """Return the effect that has these results for the test queues."""
    check_capacity(capacity)
    check_answers(answers, capacity)
    # There is one test queue of no letters, and then there are two of each length.
    rows = [row_with_results(0, answers[0], answers[0])]
    for length in range(1, capacity + 1):
        rows.append(row_with_results(length, answers[2 * length - 1], answers[2 * length]))
    return Effect(capacity, rows)


def check_answers(value, capacity):
    if not isinstance(value, list) or len(value) != 2 * capacity + 1:
        raise InvalidFacts(None)
    for position, answer in enumerate(value):
        if not is_result(answer, capacity):
            raise InvalidFacts(position)


def is_result(value, capacity):
    return value is None or is_queue(value, capacity)


def row_with_results(length, first, second):
    """Return the row with these results for the queues of so many a and of so many b."""
    row = None
    if first is not None and second is not None:
        # The results differ in the letters that are kept.
        kept = len([letter for letter, other in zip(first, second) if letter != other])
        row = (kept, first[kept:])
    if result_of_row(row, "a" * length) != first or result_of_row(row, "b" * length) != second:
        raise InvalidFacts(None)
    return row


def fitting_capacities(program, mode, facts):
    """Return the capacities with which a program has the results that the facts (queue, result) name."""
    parts = parts_of(program)
    check_mode(mode)
    check_facts(facts)
    profile = Profile.of(program)
    least = max([1] + [len(queue) for queue, _ in facts])
    # With this capacity nothing is lost, so that all larger ones give the same results.
    roomy = least + profile.high
    found = [
        capacity for capacity in range(least, min(roomy, MOST_CAPACITY) + 1)
        if fits(program_rows(parts, profile, capacity, mode), facts)
    ]
    return found + list(range(roomy + 1, MOST_CAPACITY + 1)) if roomy in found else found


def check_facts(value):
    if not isinstance(value, list):
        raise InvalidFacts(None)
    for position, fact in enumerate(value):
        if not is_fact(fact):
            raise InvalidFacts(position)


def is_fact(value):
    if not isinstance(value, tuple) or len(value) != 2:
        return False
    queue, result = value
    return is_queue(queue) and is_result(result, MOST_CAPACITY)


def fits(rows, facts):
    return all([result_of_row(rows[len(queue)], queue) == result for queue, result in facts])


def telling_length(program, mode, capacities):
    """Return the start length whose rows tell the capacities apart best, and how many are not told apart."""
    parts = parts_of(program)
    check_mode(mode)
    check_capacities(capacities)
    profile = Profile.of(program)
    tables = [program_rows(parts, profile, capacity, mode) for capacity in capacities]
    sizes = [largest_group([rows[length] for rows in tables]) for length in range(min(capacities) + 1)]
    return (sizes.index(min(sizes)), min(sizes))


def check_capacities(value):
    """Check a list of different capacities, at least one."""
    if not isinstance(value, list) or len(value) == 0:
        raise InvalidCapacity("the capacities are a list of at least one")
    for capacity in value:
        check_capacity(capacity)
    if len(set(value)) < len(value):
        raise InvalidCapacity("the capacities are different")


def largest_group(rows):
    """Return how often the most frequent row occurs."""
    counts = {}
    for row in rows:
        counts[row] = counts.get(row, 0) + 1
    return max(counts.values())
