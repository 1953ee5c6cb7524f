import random
import types
import unittest

from fullqueue.errors import (
    InvalidCapacity, InvalidMode, InvalidProgram, InvalidQueue, InvalidUser, LimitExceeded, NothingToUndo, RunFailed,
)
from fullqueue.sessions import Session
from tests.samples import (
    HUGE, MODES, NO_CAPACITIES, NO_INTEGERS, NO_MODES, NO_PROGRAMS, OTHER_KINDS, assert_errors_in_order, expand, nest,
    random_programs, simulate,
)

NO_QUEUES = ("abc", "A", "a-", "-", ".", "a b", "a\n") + OTHER_KINDS

NO_USERS = ("", "a" * 9, "A", "Ann", "a1", "a b", "ann ", "ann-", ".", "a\n") + OTHER_KINDS


class SlowSession:
    """A session that keeps what it was before each change."""

    def __init__(self, capacity, mode, queue=""):
        self.capacity, self.mode = capacity, mode
        self.states = [(queue, "")]
        self.runs = []

    def run(self, user, *programs):
        """Return the index of the program that fails, or None."""
        queue, log = self.states[-1]
        for at, program in enumerate(programs):
            result = simulate(expand(program), self.capacity, self.mode, queue)
            if isinstance(result, int):
                return at
            queue, log = result[0], log + result[2]
        self.states.append((queue, log))
        self.runs.append((user, programs))
        return None

    def undo(self, number):
        del self.states[-number:], self.runs[-number:]


class SessionTest(unittest.TestCase):
    def assert_same(self, session, slow):
        self.assertEqual((session.queue, session.log), slow.states[-1])
        self.assertEqual(list(session.changes()), slow.runs)
        self.assertEqual(len(session), len(slow.runs))
        self.assertEqual((session.capacity, session.mode), (slow.capacity, slow.mode))

    def test_example(self):
        some = Session(2, "oldest")
        self.assertEqual(some.run("ann", "ab", "c"), "bc")
        self.assertEqual((some.queue, some.log), ("bc", "a"))
        self.assertEqual(list(some.changes()), [("ann", ("ab", "c"))])

    def test_a_new_session(self):
        for capacity, mode, queue in ((1, "oldest", ""), (100, "newest", "ab" * 50), (2, "strict", "xy")):
            session = Session(capacity, mode, queue)
            self.assertEqual((session.capacity, session.mode, session.queue, session.log), (capacity, mode, queue, ""))
            self.assertEqual((len(session), list(session.changes())), (0, []))
        self.assertEqual(Session(3, "strict").queue, "")
        session = Session(queue="ab", mode="newest", capacity=3)
        self.assertEqual((session.capacity, session.mode, session.queue), (3, "newest", "ab"))
        for name in ("capacity", "mode", "queue", "log"):
            self.assertIsInstance(vars(Session)[name], property)
            with self.assertRaises(AttributeError):
                setattr(session, name, "a")

    def test_runs_in_each_mode(self):
        for mode, queue, log in (("oldest", "cd", "xa"), ("newest", "ad", "bc")):
            session = Session(2, mode, "x")
            self.assertEqual(session.run("bob", "ab", "c", "-d"), queue)
            self.assertEqual((session.queue, session.log), (queue, log))
        session = Session(2, "strict", "x")
        self.assertEqual(session.run("bob", "a-", "b--"), "")
        self.assertEqual((session.queue, session.log), ("", ""))

    def test_random_changes(self):
        source = random.Random(151)
        programs = random_programs(300, seed=152, most_count=4)
        for mode in MODES * 12:
            capacity = source.choice((1, 2, 3, 6, 100))
            queue = "".join(source.choices("xyz", k=source.randint(0, capacity)))
            session, slow = Session(capacity, mode, queue), SlowSession(capacity, mode, queue)
            for _ in range(40):
                if slow.runs and source.random() < 0.25:
                    number = source.randint(1, len(slow.runs)) if source.random() < 0.3 else 1
                    self.assertIsNone(session.undo(number=number))
                    slow.undo(number)
                else:
                    user, some = source.choice(("ann", "bob", "c")), source.choices(programs, k=source.randrange(4))
                    failed = slow.run(user, *some)
                    if failed is None:
                        self.assertEqual(session.run(user, *some), slow.states[-1][0])
                    else:
                        with self.assertRaises(RunFailed) as caught:
                            session.run(user, *some)
                        self.assertEqual(caught.exception.position, failed)
                self.assert_same(session, slow)

    def test_a_run_of_no_programs_is_a_change(self):
        session = Session(2, "oldest", "ab")
        self.assertEqual(session.run("ann"), "ab")
        self.assertEqual(session.run(user="bob"), "ab")
        self.assertEqual(session.run("ann", ""), "ab")
        self.assertEqual(list(session.changes()), [("ann", ()), ("bob", ()), ("ann", ("",))])
        session.undo(number=2)
        self.assertEqual(list(session.changes()), [("ann", ())])

    def test_programs_of_4000_steps(self):
        for program in ("(ab-)1333c", "a" * 4000, "((a-)20)100", "((a)4000)1(b)0", "(-a)2000"):
            for mode in ("oldest", "newest"):
                session, slow = Session(3, mode, "xyz"), SlowSession(3, mode, "xyz")
                slow.run("ann", program, "-", program)
                session.run("ann", program, "-", program)
                self.assert_same(session, slow)
        # Large counts of no steps.
        session = Session(3, "oldest", "xyz")
        self.assertEqual(session.run("ann", f"(a)4000(){HUGE}", f"((b){HUGE})0", nest(20, "", HUGE)), "aaa")
        self.assertEqual(session.log, "xyz" + "a" * 3997)

    def test_a_failed_run_changes_nothing(self):
        for mode, failing in (("oldest", "---"), ("newest", "(-)4000"), ("strict", "abc"), ("strict", "---")):
            session = Session(2, mode, "x")
            session.run("ann", "a-")
            for programs, position in (
                ((failing,), 0), (("", failing), 1), (("b", "-", failing), 2), ((failing, failing), 0), (("-", failing, "a"), 1),
            ):
                with self.assertRaises(RunFailed) as caught:
                    session.run("bob", *programs)
                self.assertEqual(caught.exception.position, position)
                self.assertEqual((session.queue, session.log), ("a", ""))
                self.assertEqual(list(session.changes()), [("ann", ("a-",))])

    def test_equality(self):
        one, other = Session(2, "oldest", "a"), Session(2, "oldest", "a")
        self.assertTrue(one == other)
        self.assertFalse(one != other)
        one.run("ann", "bc")
        self.assertFalse(one == other)
        # Other changes with the same result.
        other.run("bob", "b", "", "c")
        self.assertTrue(one == other)
        other.run("bob")
        self.assertTrue(one == other)
        # The queues are equal, the logs are not.
        self.assertFalse(Session(2, "oldest", "bc") == one)
        for session in (Session(3, "oldest", "a"), Session(2, "newest", "a"), Session(2, "oldest", "b"), Session(2, "oldest")):
            self.assertFalse(session == Session(2, "oldest", "a"))
            self.assertTrue(session != Session(2, "oldest", "a"))
        for value in OTHER_KINDS + ((2, "oldest", "a"), "a"):
            self.assertIs(one == value, False)
            self.assertIs(one != value, True)

    def test_clone(self):
        session = Session(2, "oldest", "a")
        session.run("ann", "bc")
        session.run("bob", "-", "d")
        other = session.clone()
        self.assertIs(type(other), Session)
        self.assertIsNot(other, session)
        self.assertEqual(other, session)
        self.assertEqual((other.capacity, other.mode, other.queue, other.log), (2, "oldest", "cd", "a"))
        self.assertEqual(list(other.changes()), list(session.changes()))
        # Each one goes its own way.
        other.run("eve", "xyz")
        self.assertEqual((session.queue, session.log, len(session)), ("cd", "a", 2))
        session.undo(number=2)
        self.assertEqual((other.queue, other.log, len(other)), ("yz", "acdx", 3))
        self.assertEqual((session.queue, session.log, len(session)), ("a", "", 0))
        other.undo(number=3)
        self.assertEqual(other, session)
        self.assertEqual(Session(1, "strict").clone(), Session(1, "strict"))


class ChangesTest(unittest.TestCase):
    def test_it_is_a_generator_of_tuples(self):
        session = Session(2, "oldest")
        session.run("ann", "a", "b")
        self.assertIsInstance(session.changes(), types.GeneratorType)
        ((user, programs),) = session.changes()
        self.assertEqual((user, programs), ("ann", ("a", "b")))
        self.assertIs(type(programs), tuple)
        self.assertIs(type(list(session.changes())[0]), tuple)

    def test_changes_are_those_when_iteration_begins(self):
        session = Session(2, "oldest")
        early = session.changes()
        session.run("ann", "a")
        session.run("bob", "b")
        self.assertEqual(next(early), ("ann", ("a",)))
        session.run("eve", "c")
        self.assertEqual(list(early), [("bob", ("b",))])
        late = session.changes()
        self.assertEqual(next(late), ("ann", ("a",)))
        session.undo(number=3)
        self.assertEqual(list(late), [("bob", ("b",)), ("eve", ("c",))])
        self.assertEqual(list(session.changes()), [])

    def test_programs_are_kept_as_they_were_given(self):
        session = Session(5, "newest")
        session.run("ann", "(ab-)2", "()0", "(a)0b")
        self.assertEqual(list(session.changes()), [("ann", ("(ab-)2", "()0", "(a)0b"))])


class UndoTest(unittest.TestCase):
    def fill(self):
        session = Session(2, "oldest", "x")
        for user, programs in (("ann", ("ab",)), ("bob", ()), ("ann", ("-", "cd")), ("eve", ("e",))):
            session.run(user, *programs)
        return session

    def test_one_by_one(self):
        session = self.fill()
        states = []
        while len(session) > 0:
            states.append((session.queue, session.log, len(session)))
            self.assertIsNone(session.undo())
        self.assertEqual(states, [("de", "xbc", 4), ("cd", "xb", 3), ("ab", "x", 2), ("ab", "x", 1)])
        self.assertEqual((session.queue, session.log), ("x", ""))

    def test_several_at_once(self):
        for number, queue, log, users in (
            (1, "cd", "xb", ["ann", "bob", "ann"]), (2, "ab", "x", ["ann", "bob"]), (3, "ab", "x", ["ann"]), (4, "x", "", []),
        ):
            session = self.fill()
            self.assertIsNone(session.undo(number=number))
            self.assertEqual((session.queue, session.log), (queue, log))
            self.assertEqual([user for user, _ in session.changes()], users)

    def test_changes_after_undo(self):
        session = self.fill()
        session.undo(number=3)
        self.assertEqual(session.run("eve", "c"), "bc")
        self.assertEqual(session.log, "xa")
        self.assertEqual([user for user, _ in session.changes()], ["ann", "eve"])
        session.undo()
        self.assertEqual((session.queue, session.log), ("ab", "x"))

    def test_nothing_to_undo(self):
        session = self.fill()
        for number in (0, 5, 6, -1, -4, HUGE, -HUGE, "a") + NO_INTEGERS:
            with self.assertRaises(NothingToUndo):
                session.undo(number=number)
            self.assertEqual((session.queue, session.log, len(session)), ("de", "xbc", 4))
        session.undo(number=4)
        for settings in ({}, {"number": 1}, {"number": 0}, {"number": None}):
            with self.assertRaises(NothingToUndo):
                session.undo(**settings)
        self.assertEqual((session.queue, session.log), ("x", ""))
        with self.assertRaises(NothingToUndo):
            Session(1, "oldest").undo()

    def test_the_number_is_keyword_only(self):
        with self.assertRaises(TypeError):
            self.fill().undo(1)


class ErrorsTest(unittest.TestCase):
    def test_errors_of_creation(self):
        assert_errors_in_order(self, Session, (
            ("capacity", 2, NO_CAPACITIES, InvalidCapacity),
            ("mode", "oldest", NO_MODES, InvalidMode),
            ("queue", "ab", NO_QUEUES, InvalidQueue),
        ))
        for capacity in (1, 99, 100):
            with self.assertRaises(InvalidQueue):
                Session(capacity, "oldest", "a" * (capacity + 1))

    def assert_rejected(self, error, *arguments):
        session = Session(2, "oldest", "x")
        session.run("ann", "ab")
        with self.assertRaises(error) as caught:
            session.run(*arguments)
        self.assertIs(type(caught.exception), error, arguments)
        self.assertEqual((session.queue, session.log), ("ab", "x"))
        self.assertEqual(list(session.changes()), [("ann", ("ab",))])
        return caught.exception

    def test_users(self):
        for user in NO_USERS:
            for programs in ((), ("a",), (None,), ("a" * 4001,), ("---",)):
                self.assert_rejected(InvalidUser, user, *programs)
        session = Session(2, "oldest")
        for user in ("a", "z" * 8):
            session.run(user)
        self.assertEqual(list(session.changes()), [("a", ()), ("z" * 8, ())])

    def test_programs(self):
        for program in NO_PROGRAMS + OTHER_KINDS:
            for programs in ((program,), ("a", program), ("a" * 4001, program), ("---", program), (program, "a" * 4001)):
                self.assert_rejected(InvalidProgram, "bob", *programs)

    def test_programs_of_more_than_4000_steps(self):
        for program, size in (
            ("a" * 4001, 4001), ("(ab-)1333cd", 4001), (f"(ab){HUGE}", 2 * HUGE), (nest(20, "a", HUGE), HUGE ** 20),
            (f"((-){HUGE}){HUGE}", HUGE ** 2), ("-" * 4001, 4001),
        ):
            for programs in ((program,), ("a", program, "b"), ("---", program), (program, "(a)5000"), ("a" * 4000, program)):
                error = self.assert_rejected(LimitExceeded, "bob", *programs)
                self.assertEqual(error.size, size)

    def test_the_first_program_that_fails(self):
        for programs, position in (
            (("---",), 0), (("a", "---", "---"), 1), (("", "", "-", "--"), 3), (("(-a)1998---",), 0), (("(ab)2000", "-", "--a"), 2),
        ):
            self.assertEqual(self.assert_rejected(RunFailed, "bob", *programs).position, position)


if __name__ == "__main__":
    unittest.main()
