import itertools
import random
import types
import unittest

from fullqueue.effects import Effect
from fullqueue.errors import InvalidCapacity, InvalidFacts, InvalidMode, InvalidProgram
from fullqueue.identifying import fitting_capacities, identify, telling_length, test_queues
from fullqueue.running import effect_of
from tests.effect_samples import all_effects, applied, random_effect
from tests.samples import (
    HUGE, MODES, NO_CAPACITIES, NO_MODES, NO_PROGRAMS, OTHER_KINDS, assert_errors_in_order, different_letters, expand, nest,
    queues, random_programs, sequences, simulate,
)

NO_FACTS = (
    None, "", "ab", (), [], ["a", "b"], ("a",), ("a", "b", "c"), ("a", 1), (1, "a"), ("a", True), (None, "a"), (None, None),
    ("A", "a"), ("a", "A"), ("a-", "a"), ("a", "-"), ("a", "."), (["a"], "a"), ("a", ["a"]), (b"a", "a"), ("a", b"a"),
    ("a" * 101, "a"), ("a", "a" * 101), {"a": "b"}, 0, 1, True, object(), {"a", "b"}, frozenset(("a", "b")), ("a", ("b",)),
)


def queues_to_test(capacity):
    return [""] + [letter * length for length in range(1, capacity + 1) for letter in "ab"]


def answers_of(effect):
    """The results for the test queues by the definition."""
    return [applied(effect, queue) for queue in queues_to_test(effect.capacity)]


def result_of(program, capacity, mode, queue):
    result = simulate(expand(program), capacity, mode, queue)
    return None if isinstance(result, int) else result[0]


class TestQueuesTest(unittest.TestCase):
    def test_order(self):
        self.assertEqual(list(test_queues(1)), ["", "a", "b"])
        self.assertEqual(list(test_queues(2)), ["", "a", "b", "aa", "bb"])
        self.assertEqual(list(test_queues(3)), ["", "a", "b", "aa", "bb", "aaa", "bbb"])
        for capacity in (4, 99, 100):
            self.assertEqual(list(test_queues(capacity)), queues_to_test(capacity))

    def test_it_is_a_generator(self):
        self.assertIsInstance(test_queues(2), types.GeneratorType)
        self.assertEqual(list(test_queues(capacity=1)), ["", "a", "b"])

    def test_errors_are_raised_when_iteration_begins(self):
        for value in NO_CAPACITIES:
            generator = test_queues(value)
            with self.assertRaises(InvalidCapacity):
                next(generator)


class IdentifyTest(unittest.TestCase):
    def test_examples(self):
        self.assertEqual(identify(1, ["", "a", "b"]).rows, ((0, ""), (1, "")))
        self.assertEqual(identify(1, [None, "a", "a"]).rows, (None, (0, "a")))
        self.assertEqual(identify(2, ["", None, None, "ac", "bc"]).rows, ((0, ""), None, (1, "c")))

    def test_all_small_effects(self):
        for effect in all_effects(1, "abc") + all_effects(2, "ab") + all_effects(2, "c"):
            self.assertEqual(identify(effect.capacity, answers_of(effect)), effect)

    def test_random_effects(self):
        source = random.Random(121)
        for capacity in (3, 5, 10, 50, 99, 100) * 12:
            effect = random_effect(source, capacity, source.choice(("a", "b", "ab", "abz")), source.choice((0, 0.1, 0.8)))
            answers = answers_of(effect)
            found = identify(capacity, answers)
            self.assertIs(type(found), Effect)
            self.assertEqual(found, effect)
            self.assertEqual(answers, answers_of(effect))

    def test_identity_failing_and_constant_effects(self):
        for capacity in (1, 2, 100):
            constant = Effect(capacity, [(0, "a" * capacity)] * (capacity + 1))
            for effect in (Effect.identity(capacity), Effect.failing(capacity), constant):
                self.assertEqual(identify(capacity, answers_of(effect)), effect)

    def test_effects_of_programs(self):
        for program in random_programs(30, seed=122) + [f"(ab-){HUGE}", f"(-a){HUGE}b", nest(20, "ab-", HUGE)]:
            for capacity in (1, 3, 100):
                for mode in MODES:
                    effect = effect_of(program, capacity, mode)
                    self.assertEqual(identify(capacity, answers_of(effect)), effect)

    def test_all_lists_of_answers(self):
        for capacity, letters in ((1, "abc"), (2, "ab")):
            known = {tuple(answers_of(effect)): effect for effect in all_effects(capacity, letters)}
            found = 0
            for answers in itertools.product([None] + list(queues(capacity, letters)), repeat=2 * capacity + 1):
                if answers in known:
                    found += 1
                    self.assertEqual(identify(capacity, list(answers)), known[answers])
                else:
                    with self.assertRaises(InvalidFacts) as caught:
                        identify(capacity, list(answers))
                    self.assertIsNone(caught.exception.position)
            self.assertEqual(found, len(known))

    def test_one_answer_changed(self):
        source = random.Random(123)
        for capacity in (1, 3, 6, 100):
            for _ in range(15):
                effect = random_effect(source, capacity, failing=0.2)
                for _ in range(20):
                    answers = answers_of(effect)
                    at = source.randrange(len(answers))
                    old = answers[at] or ""
                    answers[at] = source.choice((None, old[1:], old[:-1], "a" + old[1:], old[:-1] + "c", (old + "b")[:capacity]))
                    try:
                        found = identify(capacity, answers)
                    except InvalidFacts as error:
                        self.assertIsNone(error.position)
                    else:
                        self.assertEqual(answers_of(found), answers)

    def test_more_letters_kept_than_there_are(self):
        for answers in (["", "aa", "bb", None, None], ["", "aac", "bbc", None, None, None, None]):
            with self.assertRaises(InvalidFacts) as caught:
                identify(len(answers) // 2, answers)
            self.assertIsNone(caught.exception.position)

    def test_values_that_are_no_list_of_the_right_length(self):
        for capacity in (1, 2, 100):
            answers = answers_of(Effect.identity(capacity))
            wrong = (answers[:-1], answers + [""], answers + [None], [], [None], tuple(answers), answers * 2, "ab" * capacity + "a")
            for value in wrong + OTHER_KINDS:
                with self.assertRaises(InvalidFacts) as caught:
                    identify(capacity, value)
                self.assertIsNone(caught.exception.position)

    def test_answers_that_are_neither_none_nor_a_queue(self):
        for capacity in (1, 2, 100):
            right = answers_of(Effect.identity(capacity))
            for value in ("A", "-", "a-", ".", "a" * (capacity + 1), 0, 1, True, b"", b"a", [], ["a"], ("a",), {}, object()):
                for at in {0, 1, 2, 2 * capacity - 1, 2 * capacity}:
                    for later in (right[at + 1:], [value] * (2 * capacity - at), [None] * (2 * capacity - at)):
                        with self.assertRaises(InvalidFacts) as caught:
                            identify(capacity, right[:at] + [value] + later)
                        self.assertEqual(caught.exception.position, at)
        # The kinds of all answers are checked before the results are compared.
        with self.assertRaises(InvalidFacts) as caught:
            identify(2, ["", None, "a", "b", "aaa"])
        self.assertEqual(caught.exception.position, 4)

    def test_order_of_errors(self):
        assert_errors_in_order(self, identify, (
            ("capacity", 1, NO_CAPACITIES, InvalidCapacity),
            ("answers", ["", "a", "b"], OTHER_KINDS + ([None] * 2, ["-", None, None], ["", "a", None]), InvalidFacts),
        ))

    def test_results_are_independent(self):
        answers = ["", "a", "b"]
        effect = identify(answers=answers, capacity=1)
        answers[0] = "a"
        self.assertEqual(effect, Effect.identity(1))


class FittingTest(unittest.TestCase):
    def assert_fitting(self, program, mode, facts):
        expected = [
            capacity for capacity in range(1, 101)
            if all(len(queue) <= capacity and result_of(program, capacity, mode, queue) == result for queue, result in facts)
        ]
        self.assertEqual(fitting_capacities(program, mode, facts), expected, (program, mode, facts))
        return expected

    def test_examples(self):
        self.assertEqual(fitting_capacities("a-", "oldest", [("bb", "a")]), [2])

    def test_no_facts(self):
        for program in ("", "a", "-" * 101, f"(ab-){HUGE}"):
            for mode in MODES:
                self.assertEqual(fitting_capacities(program, mode, []), list(range(1, 101)))

    def test_small_cases(self):
        for program, mode, facts, expected in (
            ("", "oldest", [("", "")], list(range(1, 101))), ("", "oldest", [("abc", "abc")], list(range(3, 101))),
            ("", "strict", [("", "a")], []), ("a", "strict", [("x", None)], [1]), ("a", "strict", [("x", "xa")], list(range(2, 101))),
            ("aaa", "newest", [("x", "xa")], [2]), ("aaa", "oldest", [("x", "aa")], [2]), ("abc", "newest", [("xy", "xy")], [2]),
            ("-", "oldest", [("", None)], list(range(1, 101))), ("-", "oldest", [("", None), ("a", None)], []),
            ("(a)50", "strict", [("", None)], list(range(1, 50))), ("(a)50(-)50", "oldest", [("", "")], list(range(50, 101))),
            (f"(a){HUGE}", "oldest", [("", "a" * 37)], [37]), (f"(a){HUGE}", "strict", [("", None)], list(range(1, 101))),
            (f"(ab-){HUGE}-", "newest", [("x", "a" * 40)], [42]), (f"(ab-){HUGE}-", "newest", [("x", "b" + "a" * 4)], []),
        ):
            self.assertEqual(fitting_capacities(program, mode, facts), expected, (program, mode, facts))

    def test_facts_of_a_capacity(self):
        source = random.Random(131)
        programs = random_programs(60, seed=132, most_count=9) + ["(ab-)40", "(a)60(-)30", "-(ab)9--", "(-a)30", "aab-"]
        several = 0
        for program in programs:
            mode = source.choice(MODES)
            capacity = source.choice((1, 2, 3, 5, 9, 30, 99, 100))
            facts = []
            for _ in range(source.randint(1, 3)):
                queue = different_letters(source.randint(0, capacity))
                facts.append((queue, result_of(program, capacity, mode, queue)))
            expected = self.assert_fitting(program, mode, facts)
            self.assertIn(capacity, expected)
            several += len(expected) > 1
            # A fact that no capacity or that other capacities fit.
            queue, result = facts[0]
            for other in (None, "q", "", (result or "")[1:], (result or "a")[:-1]):
                self.assert_fitting(program, mode, [(queue, other)] + facts[1:])
        self.assertGreater(several, 10)

    def test_every_short_sequence(self):
        for sequence in sequences(3, "ab-"):
            for mode in MODES:
                for queue in ("", "x", "xy"):
                    for result in {result_of(sequence, capacity, mode, queue) for capacity in (2, 3, 5)}:
                        self.assert_fitting(sequence, mode, [(queue, result)])

    def test_queues_and_results_of_100_letters(self):
        full = "ab" * 50
        for mode in MODES:
            self.assertEqual(fitting_capacities("", mode, [(full, full)]), [100])
            self.assertEqual(fitting_capacities("-a", mode, [("b" * 100, "b" * 99 + "a")]), [100])
            self.assertEqual(fitting_capacities("", mode, [(full[1:], full)]), [])
            self.assertEqual(fitting_capacities("(a)99b", mode, [("", "a" * 99 + "b")]), [100])

    def test_large_counts(self):
        for program in (f"(ab-){HUGE}c", f"((ab-){HUGE}-){HUGE}", f"(-a){HUGE}", f"(ab){HUGE}(-)5", nest(5, "ab-c-", HUGE)):
            for mode in MODES:
                for capacity in (1, 4, 37, 100):
                    effect = effect_of(program, capacity, mode)
                    facts = [(queue, applied(effect, queue)) for queue in (different_letters(capacity), "")]
                    found = fitting_capacities(program, mode, facts)
                    self.assertIn(capacity, found)
                    expected = []
                    for other in range(capacity, 101):
                        effect = effect_of(program, other, mode)
                        if all(applied(effect, queue) == result for queue, result in facts):
                            expected.append(other)
                    self.assertEqual(found, expected)

    def test_facts_that_are_rejected(self):
        right = ("ab", None)
        for value in NO_FACTS:
            for facts, position in (([value], 0), ([right, value], 1), ([value, right], 0), ([right, right, value, value], 2)):
                for program in ("", "-" * 200):
                    with self.assertRaises(InvalidFacts) as caught:
                        fitting_capacities(program, "oldest", facts)
                    self.assertEqual(caught.exception.position, position)

    def test_values_that_are_no_list(self):
        for value in OTHER_KINDS + ((("a", "a"),), {("a", "a"): 1}, ("a", "a"), {("a", "a")}, iter([("a", "a")])):
            if not isinstance(value, list):
                with self.assertRaises(InvalidFacts) as caught:
                    fitting_capacities("", "oldest", value)
                self.assertIsNone(caught.exception.position)

    def test_order_of_errors(self):
        assert_errors_in_order(self, fitting_capacities, (
            ("program", "a-", NO_PROGRAMS + OTHER_KINDS, InvalidProgram),
            ("mode", "oldest", NO_MODES, InvalidMode),
            ("facts", [("bb", "a")], (None, [()], ["a"], (("bb", "a"),)), InvalidFacts),
        ))

    def test_results_are_new_and_arguments_unchanged(self):
        facts = [("bb", "a"), ("b", None)]
        found = fitting_capacities(facts=facts, mode="oldest", program="a-")
        self.assertEqual(facts, [("bb", "a"), ("b", None)])
        self.assertIs(type(found), list)
        found.append(1)
        self.assertEqual(fitting_capacities("a-", "oldest", [("bb", "a")]), [2])
        found = fitting_capacities("", "oldest", [])
        found.clear()
        self.assertEqual(fitting_capacities("", "oldest", []), list(range(1, 101)))


class TellingLengthTest(unittest.TestCase):
    def assert_telling(self, program, mode, capacities):
        sizes = []
        for length in range(min(capacities) + 1):
            rows = [effect_of(program, capacity, mode)[length] for capacity in capacities]
            sizes.append(max(rows.count(row) for row in rows))
        expected = (sizes.index(min(sizes)), min(sizes))
        self.assertEqual(telling_length(program, mode, capacities), expected, (program, mode, capacities))

    def test_examples(self):
        self.assertEqual(telling_length("aa", "oldest", [1, 2, 3]), (1, 1))

    def test_small_cases(self):
        for program, mode, capacities, expected in (
            ("", "oldest", [1, 2, 3], (0, 3)), ("a", "strict", [1, 2], (1, 1)), ("a", "strict", [2, 3, 4], (2, 2)),
            ("aaa", "newest", [1, 2, 3], (0, 1)), ("aaa", "newest", [1, 2, 3, 4], (1, 1)), ("aaa", "newest", [3, 4, 5, 6], (3, 1)),
            ("-", "newest", [5], (0, 1)), ("-", "newest", [5, 6], (0, 2)), (f"(a){HUGE}", "oldest", list(range(1, 101)), (0, 1)),
            (f"(a){HUGE}", "strict", list(range(1, 101)), (0, 100)), ("(a)50", "oldest", list(range(1, 101)), (1, 50)),
            ("(a)50", "strict", [100, 50, 1], (0, 2)), ("(a)50", "strict", [100, 99, 80, 51, 50], (2, 3)),
        ):
            self.assertEqual(telling_length(program, mode, capacities), expected, (program, mode, capacities))
            self.assert_telling(program, mode, capacities)

    def test_against_the_definition(self):
        source = random.Random(141)
        found = set()
        for program in random_programs(120, seed=142, most_count=6) + ["(a)3", "ab(c)5", "(ab-)9", "(a)20(-)15", "-(a)30"]:
            for mode in MODES:
                capacities = source.sample(range(1, source.choice((5, 12, 101))), source.randint(1, 4))
                self.assert_telling(program, mode, capacities)
                found.add(telling_length(program, mode, capacities))
        self.assertGreater(len(found), 8)

    def test_many_capacities(self):
        source = random.Random(143)
        for program in ("(ab-)30", "(abc)9--", f"(ab-){HUGE}", "(a)60(-)55", "---(ab)20"):
            for mode in MODES:
                capacities = list(range(3, 101))
                source.shuffle(capacities)
                self.assert_telling(program, mode, capacities)
                self.assert_telling(program, mode, [100, 99, 98, 97])

    def test_capacities_in_any_order(self):
        for program in ("aaa", "(ab)5-", "(a)9(-)7"):
            for mode in MODES:
                results = {telling_length(program, mode, list(order)) for order in itertools.permutations((3, 5, 7, 8))}
                self.assertEqual(len(results), 1)

    def test_kinds_of_results(self):
        found = telling_length("aa", "oldest", [1, 2, 3])
        self.assertIs(type(found), tuple)
        self.assertEqual([type(number) for number in found], [int, int])

    def test_capacities_that_are_rejected(self):
        for value in NO_CAPACITIES:
            for capacities in ([value], [1, value], [value, 1], [1, 2, 3, value]):
                with self.assertRaises(InvalidCapacity):
                    telling_length("aa", "oldest", capacities)
        for capacities in ([], [1, 1], [3, 2, 3], [100] * 50) + OTHER_KINDS + ((1, 2, 3), {1: 2}, {1, 2}, "123", range(1, 4)):
            with self.assertRaises(InvalidCapacity):
                telling_length("aa", "oldest", capacities)

    def test_order_of_errors(self):
        assert_errors_in_order(self, telling_length, (
            ("program", "a-", NO_PROGRAMS + OTHER_KINDS, InvalidProgram),
            ("mode", "oldest", NO_MODES, InvalidMode),
            ("capacities", [1, 2], ([], None, (1, 2), [0], [2, 2], [101, 1]), InvalidCapacity),
        ))

    def test_arguments_by_name_are_not_changed(self):
        capacities = [3, 1, 2]
        self.assertEqual(telling_length(capacities=capacities, mode="oldest", program="aa"), (1, 1))
        self.assertEqual(capacities, [3, 1, 2])


if __name__ == "__main__":
    unittest.main()
