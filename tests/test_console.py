import random
import unittest

from fullqueue.comparing import settling
from fullqueue.console import Console
from fullqueue.errors import (
    InvalidCommand, InvalidInteger, InvalidMode, InvalidQueue, LimitExceeded, NothingToUndo, QueueError, RunFailed,
)
from fullqueue.lengths import end_length, lost_letters
from fullqueue.running import effect_of
from fullqueue.text_format import format_effect, parse_effect
from tests.effect_samples import applied
from tests.samples import (
    HUGE, MODES, NO_PROGRAMS, OTHER_KINDS, expand, nest, queues, random_programs, simulate,
)

# One command of each form but those that change the session.
QUESTIONS = (
    "queue", "log", "effect a", "effect .", "same a b", "same . .", "settles -", "short a", "ends a 0", "lost a 0",
)

# Words that are not of the kind.
NO_CAPACITY_WORDS = ("", "0", "101", "-1", "-0", "02", "+2", "2.0", "1_0", "a", ".", "-", "0x2", str(HUGE), "\u0662", "2\n")
NO_MODE_WORDS = ("", "old", "Oldest", "oldestx", ".", "2", "oldest\n")
NO_QUEUE_WORDS = ("", "A", "a-", "-", "..", "1", "a" * 101, "a\n", "()", "\xe4")
NO_USER_WORDS = ("", ".", "Ann", "a1", "a" * 9, "ann-", "a\n", "-")
NO_NUMBER_WORDS = ("", ".", "a", "01", "00", "-0", "-01", "--1", "+1", "1.0", "1_0", "1-", "-", "0x1", "1e3", "\u0661", "1\n", "(1)")
NO_PROGRAM_WORDS = tuple(text for text in NO_PROGRAMS if " " not in text and len(text) < 3000) + ("", "..", ".a", "a.", "(.)2")


def opened(capacity=2, mode="oldest", queue="."):
    desk = Console()
    assert desk.execute(f"open {capacity} {mode} {queue}") == "ok"
    return desk


def shown(text):
    return text or "."


class CommandsTest(unittest.TestCase):
    def test_example(self):
        desk = Console()
        desk.execute("open 2 oldest .")
        desk.execute("run ann (ab)2")
        self.assertEqual(desk.execute("log"), "ab")

    def test_a_long_talk(self):
        desk = Console()
        for command, answer in (
            ("open 2 oldest .", "ok"), ("queue", "."), ("log", "."), ("run ann (ab)2", "ab"), ("queue", "ab"), ("log", "ab"),
            ("run bob .", "ab"), ("run bob ab-c--", "."), ("log", "abab"), ("queue", "."), ("undo 1", "ab"), ("log", "ab"),
            ("undo 2", "."), ("log", "."), ("run eve xyz", "yz"), ("effect ab-", "0:b 0:b 0:b"), ("effect .", "0: 1: 2:"),
            ("effect -", ". 0: 1:"), ("same a b", "no ."), ("same (a)2 (a)2()5", "yes"), ("same . .", "yes"),
            ("settles a", "2"), ("settles .", "0"), ("settles ---", "1"), ("short (ab-)1000c", "bc"), ("short .", "."), ("short ---", "---"),
            ("ends ab- 2", "1"), ("ends - 0", "-"), ("ends . 1", "1"), ("lost ab- 2", "2"), ("lost - 0", "-"), ("lost . 2", "0"),
            ("queue", "yz"), ("log", "x"), ("open 1 newest z", "ok"), ("queue", "z"), ("log", "."), ("run ann abc", "z"), ("log", "abc"),
            ("effect a", "0:a 1:"), ("same a .", "no ."), ("run ann -a", "a"), ("open 3 strict ab", "ok"), ("queue", "ab"), ("short ab-", "ab-"),
            ("effect aa", "0:aa 1:aa . ."), ("ends a 3", "-"), ("lost a 3", "-"), ("lost a 2", "0"), (f"settles (a){HUGE}", "1"),
        ):
            self.assertEqual(desk.execute(command), answer, command)

    def test_open(self):
        for capacity, mode, queue in ((1, "oldest", "."), (100, "newest", "ab" * 50), (3, "strict", "xyz"), (10, "oldest", "z")):
            desk = Console()
            self.assertEqual(desk.execute(f"open {capacity} {mode} {queue}"), "ok")
            self.assertEqual(desk.execute("queue"), queue)
            self.assertEqual(desk.execute("effect ."), " ".join(f"{n}:" for n in range(capacity + 1)))
            self.assertEqual(len(desk), 0)

    def test_open_replaces_the_session(self):
        desk = opened()
        desk.execute("run ann abc")
        self.assertEqual((len(desk), desk.execute("log")), (1, "a"))
        desk.execute("open 5 newest q")
        self.assertEqual((len(desk), desk.execute("log"), desk.execute("queue")), (0, ".", "q"))
        with self.assertRaises(NothingToUndo):
            desk.execute("undo 1")

    def test_length(self):
        desk = Console()
        self.assertEqual(len(desk), 0)
        desk.execute("open 2 oldest .")
        self.assertEqual(len(desk), 0)
        for many in range(1, 5):
            desk.execute("run ann a")
            self.assertEqual(len(desk), many)
        desk.execute("undo 3")
        self.assertEqual(len(desk), 1)
        desk.execute("run bob .")
        self.assertEqual(len(desk), 2)

    def test_runs(self):
        source = random.Random(171)
        programs = random_programs(100, seed=172, most_count=4)
        for mode in MODES * 4:
            capacity = source.choice((1, 2, 5, 100))
            desk, queue, log = opened(capacity, mode), "", ""
            for program in source.sample(programs, 30):
                result = simulate(expand(program), capacity, mode, queue)
                if isinstance(result, int):
                    with self.assertRaises(RunFailed) as caught:
                        desk.execute(f"run ann {shown(program)}")
                    self.assertEqual(caught.exception.position, 0)
                else:
                    queue, log = result[0], log + result[2]
                    self.assertEqual(desk.execute(f"run ann {shown(program)}"), shown(queue))
                self.assertEqual((desk.execute("queue"), desk.execute("log")), (shown(queue), shown(log)))

    def test_questions_change_nothing(self):
        for mode in ("oldest", "strict"):
            desk = opened(3, mode, "xyz")
            desk.execute("run ann -")
            for command in QUESTIONS:
                desk.execute(command)
                self.assertEqual((desk.execute("queue"), desk.execute("log"), len(desk)), ("yz", ".", 1))

    def test_effects(self):
        for program in random_programs(40, seed=173) + [f"(ab-){HUGE}c", f"(-a){HUGE}", nest(20, "ab-", HUGE)]:
            for mode in MODES:
                desk = opened(4, mode)
                answer = desk.execute(f"effect {shown(program)}")
                self.assertEqual(parse_effect(answer), effect_of(program, 4, mode))
                self.assertEqual(answer, format_effect(effect_of(program, 4, mode)))
                self.assertEqual(desk.execute(f"settles {shown(program)}"), str(settling(effect_of(program, 4, mode))))

    def test_same(self):
        programs = random_programs(25, seed=174, letters="ab") + ["a", "(a)3", "aaa", "-", "--"]
        for mode in MODES:
            desk = opened(2, mode)
            for one in programs:
                for other in programs:
                    effects = [effect_of(program, 2, mode) for program in (one, other)]
                    answer = desk.execute(f"same {shown(one)} {shown(other)}")
                    told_apart = [queue for queue in queues(2, "ab") if applied(effects[0], queue) != applied(effects[1], queue)]
                    if told_apart:
                        self.assertRegex(answer, r"^no ([a-z]+|\.)$")
                        queue = answer[3:].replace(".", "")
                        self.assertEqual(len(queue), len(told_apart[0]))
                        self.assertNotEqual(applied(effects[0], queue), applied(effects[1], queue))
                    else:
                        self.assertEqual(answer, "yes")

    def test_short(self):
        for program in random_programs(30, seed=175) + [f"(ab-){HUGE}c", f"(-){HUGE}", "()3", "a-a-a-"]:
            for mode in ("oldest", "strict"):
                answer = opened(3, mode).execute(f"short {shown(program)}")
                self.assertRegex(answer, r"^([a-z-]+|\.)$")
                sequence = answer.replace(".", "")
                self.assertEqual(effect_of(sequence, 3, mode), effect_of(program, 3, mode))
        with self.assertRaises(InvalidMode):
            opened(3, "newest").execute("short a")
        self.assertEqual(opened(3, "oldest").execute(f"short (a-){HUGE}(-)9"), "----")

    def test_ends_and_lost(self):
        for program in random_programs(40, seed=176) + [f"(a){HUGE}", f"(ab-){HUGE}", "-----"]:
            for mode in MODES:
                desk = opened(4, mode)
                for length in range(5):
                    for word, function in (("ends", end_length), ("lost", lost_letters)):
                        expected = function(program, 4, mode, length)
                        answer = desk.execute(f"{word} {shown(program)} {length}")
                        self.assertEqual(answer, "-" if expected is None else str(expected))
        self.assertEqual(opened(5, "newest").execute(f"lost (a){HUGE} 5"), str(HUGE))

    def test_consoles_are_independent(self):
        one, other = opened(), opened()
        one.execute("run ann ab")
        self.assertEqual((one.execute("queue"), other.execute("queue"), len(other)), ("ab", ".", 0))


class InvalidCommandsTest(unittest.TestCase):
    def assert_invalid(self, desk, value):
        with self.assertRaises(InvalidCommand, msg=repr(value)) as caught:
            desk.execute(value)
        self.assertIs(type(caught.exception), InvalidCommand)

    def assert_invalid_everywhere(self, value):
        self.assert_invalid(Console(), value)
        desk = opened(2, "oldest", "xy")
        desk.execute("run ann -ab")
        self.assert_invalid(desk, value)
        self.assertEqual((desk.execute("queue"), desk.execute("log"), len(desk)), ("ab", "y", 1))

    def test_values_that_are_no_commands(self):
        for value in OTHER_KINDS + (
            "", " ", ".", "a", "opens", "Queue", "queue.", "quit", "help", "queue\n", "\nqueue", "queue\t", "run\tann a", "OPEN 2 oldest .",
            b"queue", ["queue"], ("queue",), "run ann\n.", "open 2 oldest .\n", "-", "yes",
        ):
            self.assert_invalid_everywhere(value)

    def test_a_space_more_or_fewer(self):
        for command in QUESTIONS + ("open 2 oldest .", "open 2 oldest ab", "run ann a", "run ann .", "undo 1"):
            self.assert_invalid_everywhere(command + " ")
            self.assert_invalid_everywhere(" " + command)
            for at, sign in enumerate(command):
                if sign == " ":
                    self.assert_invalid_everywhere(command[:at] + " " + command[at:])
                    self.assert_invalid_everywhere(command[:at] + "\t" + command[at + 1:])
                    self.assert_invalid_everywhere(command[:at] + "\n" + command[at + 1:])
                    self.assert_invalid_everywhere(command[:at] + command[at + 1:])

    def test_a_word_too_many_or_too_few(self):
        for command in QUESTIONS + ("open 2 oldest .", "run ann a", "undo 1"):
            for word in (".", "a", "1", "oldest"):
                self.assert_invalid_everywhere(f"{command} {word}")
            words = command.split(" ")
            for many in range(1, len(words)):
                self.assert_invalid_everywhere(" ".join(words[:many]))

    def test_words_of_other_kinds(self):
        for form, wrong in (
            ("open {} oldest .", NO_CAPACITY_WORDS), ("open 2 {} .", NO_MODE_WORDS), ("open 2 oldest {}", NO_QUEUE_WORDS),
            ("run {} a", NO_USER_WORDS), ("run ann {}", NO_PROGRAM_WORDS), ("undo {}", NO_NUMBER_WORDS), ("effect {}", NO_PROGRAM_WORDS),
            ("same {} a", NO_PROGRAM_WORDS), ("same a {}", NO_PROGRAM_WORDS), ("settles {}", NO_PROGRAM_WORDS),
            ("short {}", NO_PROGRAM_WORDS), ("ends {} 1", NO_PROGRAM_WORDS), ("ends a {}", NO_NUMBER_WORDS),
            ("lost {} 1", NO_PROGRAM_WORDS), ("lost a {}", NO_NUMBER_WORDS), ("{} a", ("Effect", "effects", "", "run")),
        ):
            for word in wrong:
                self.assert_invalid_everywhere(form.format(word))

    def test_without_a_session(self):
        desk = Console()
        for command in QUESTIONS + ("run ann a", "undo 1", "undo 0", f"run ann (a){HUGE}", "ends a 500", "short a"):
            self.assert_invalid(desk, command)
            self.assertEqual(len(desk), 0)
        # A refused session is no session.
        with self.assertRaises(InvalidQueue):
            desk.execute("open 1 oldest ab")
        self.assert_invalid(desk, "queue")
        desk.execute("open 2 oldest .")
        self.assertEqual(desk.execute("queue"), ".")


class ErrorsTest(unittest.TestCase):
    def assert_refused(self, command, error, mode="oldest", **fields):
        desk = opened(3, mode, "xyz")
        desk.execute("run ann --a")
        with self.assertRaises(error) as caught:
            desk.execute(command)
        self.assertIs(type(caught.exception), error, command)
        for name, value in fields.items():
            self.assertEqual(getattr(caught.exception, name), value, command)
        self.assertEqual((desk.execute("queue"), desk.execute("log"), len(desk)), ("za", ".", 1))
        self.assertEqual(desk.execute("effect ."), "0: 1: 2: 3:")
        self.assertEqual(desk.execute("undo 1"), "xyz")

    def test_open_with_a_queue_that_is_too_long(self):
        for capacity, queue in ((1, "ab"), (2, "abc"), (99, "a" * 100), (9, "a" * 100)):
            self.assert_refused(f"open {capacity} newest {queue}", InvalidQueue)

    def test_runs(self):
        self.assert_refused("run ann ---", RunFailed, position=0)
        self.assert_refused("run ann aaa", RunFailed, mode="strict", position=0)
        self.assert_refused("run ann (a)4001", LimitExceeded, size=4001)
        self.assert_refused(f"run ann (-){HUGE}", LimitExceeded, size=HUGE)
        desk = opened(3)
        self.assertEqual(desk.execute("run ann (ab)2000"), "bab")

    def test_undo(self):
        for number in ("0", "2", "-1", "100", str(HUGE), str(-HUGE)):
            self.assert_refused(f"undo {number}", NothingToUndo)

    def test_lengths(self):
        for word in ("ends", "lost"):
            for number in ("4", "-1", "101", str(HUGE), str(-HUGE)):
                for program in ("a", ".", "----"):
                    self.assert_refused(f"{word} {program} {number}", InvalidInteger)

    def test_short_in_mode_newest(self):
        for program in ("a", ".", f"(a){HUGE}"):
            self.assert_refused(f"short {program}", InvalidMode, mode="newest")

    def test_errors_are_those_of_the_package(self):
        # Random words never lead to any other error.
        source = random.Random(181)
        words = (
            "open run undo queue log effect same settles short ends lost ann bob . a ab- (ab)2 (a)5000 --- 0 1 2 3 -1 oldest newest strict"
        ).split()
        desk = opened()
        answered = 0
        for _ in range(6000):
            command = " ".join(source.choices(words, k=source.randint(1, 4)))
            try:
                self.assertIs(type(desk.execute(command)), str)
                answered += 1
            except (QueueError, LimitExceeded, NothingToUndo):
                pass
        self.assertGreater(answered, 200)

    def test_arguments_by_name(self):
        self.assertEqual(Console().execute(line="open 2 oldest ."), "ok")


if __name__ == "__main__":
    unittest.main()
