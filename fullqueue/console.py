"""A console: commands to one session, and their answers."""

from fullqueue.comparing import separating_queue, settling
from fullqueue.errors import InvalidCommand
from fullqueue.integers import read_integer
from fullqueue.lengths import end_length, lost_letters
from fullqueue.letters import is_capacity, is_mode, is_queue, is_user
from fullqueue.programs import is_program
from fullqueue.running import effect_of
from fullqueue.sessions import Session
from fullqueue.shortest import shortest_sequence
from fullqueue.text_format import format_effect

EMPTY = "."
FAILED = "-"


class Console:
    """One session, as soon as it is opened."""

    def __init__(self):
        self._session = None

    def execute(self, line):
        """Do a command and return its answer."""
        name, values = read_command(line)
        if name == "open":
            self._session = Session(*values)
            return "ok"
        if self._session is None:
            raise InvalidCommand("there is no session")
        answer = ANSWERS[name]
        return answer(self._session, *values)

    def __len__(self):
        if self._session is None:
            return 0
        return len(self._session)


def read_command(line):
    """Return the first word of a command, and the values of its other words."""
    if not isinstance(line, str):
        raise InvalidCommand("a command is a string")
    name, *words = line.split(" ")
    if name not in FORMS or len(words) != len(FORMS[name]):
        raise InvalidCommand("there is no command of this form")
    readers = FORMS[name]
    values = []
    for index, word in enumerate(words):
        reader = readers[index]
        value = reader(word)
        if value is None:
            raise InvalidCommand("a word is not of its kind")
        values.append(value)
    return name, values


# Readers return the value of a word, or None if the word is not of their kind.


def read_capacity(word):
    number = read_integer(word)
    return number if is_capacity(number) else None


def read_number(word):
    return read_integer(word)


def read_mode(word):
    return word if is_mode(word) else None


def read_user(word):
    return word if is_user(word) else None


def read_program(word):
    if word == EMPTY:
        return ""
    return word if word != "" and is_program(word) else None


def read_queue(word):
    if word == EMPTY:
        return ""
    return word if word != "" and is_queue(word) else None


FORMS = {
    "open": (read_capacity, read_mode, read_queue),
    "run": (read_user, read_program),
    "undo": (read_number,),
    "queue": (),
    "log": (),
    "effect": (read_program,),
    "same": (read_program, read_program),
    "settles": (read_program,),
    "short": (read_program,),
    "ends": (read_program, read_number),
    "lost": (read_program, read_number),
}


def answer_run(session, user, program):
    return shown(session.run(user, program))


def answer_undo(session, number):
    session.undo(number=number)
    return shown(session.queue)


def answer_queue(session):
    return shown(session.queue)


def answer_log(session):
    return shown(session.log)


def answer_effect(session, program):
    return format_effect(effect_in(session, program))


def answer_same(session, program, other):
    queue = separating_queue(effect_in(session, program), effect_in(session, other))
    return "yes" if queue is None else f"no {shown(queue)}"


def answer_settles(session, program):
    return str(settling(effect_in(session, program)))


def answer_short(session, program):
    return shown(shortest_sequence(effect_in(session, program), session.mode))


def answer_ends(session, program, length):
    return number_or_failed(end_length(program, session.capacity, session.mode, length))


def answer_lost(session, program, length):
    return number_or_failed(lost_letters(program, session.capacity, session.mode, length))


def effect_in(session, program):
    """Return the effect of a program for the capacity and the mode of a session."""
    return effect_of(program, session.capacity, session.mode)


def shown(text):
    """Return the answer for a queue, a log or a sequence."""
    return EMPTY if text == "" else text


def number_or_failed(number):
    return FAILED if number is None else str(number)


ANSWERS = {
    "run": answer_run,
    "undo": answer_undo,
    "queue": answer_queue,
    "log": answer_log,
    "effect": answer_effect,
    "same": answer_same,
    "settles": answer_settles,
    "short": answer_short,
    "ends": answer_ends,
    "lost": answer_lost,
}
