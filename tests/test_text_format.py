import random
import unittest

from fullqueue.effects import Effect
from fullqueue.errors import InvalidEffect, InvalidText
from fullqueue.running import effect_of
from fullqueue.text_format import format_effect, parse_effect
from tests.effect_samples import NO_EFFECTS, all_effects, random_effect
from tests.samples import HUGE, MODES, OTHER_KINDS, mutations, queues, random_programs

NO_TEXTS = (
    "", " ", ".", "0:", "0:a", " . 0:", ". 0: ", ".  0:", ". . 0: ", ".\n0:", ". 0:\n", "\t. 0:", ".,0:", "..", ". ..", ". 0",
    ". :", ". :a", ". a", ". 0a", ". 0 :a", ". 0: a", ". 0::", ". 0:a:", ". 0:.", ". 0:-", ". 0:A", ". 0:a-", ". 00:", ". 00:a",
    ". 01:", ". 2:", ". -1:", ". -0:", ". +0:", ". +1:", ". 0.0:", ". 1.0:", ". 0x0:", ". 1_0:", ". 1:a", ". 0:ab", "1: 0:", "0:a 2:",
    ". . 2:a", ". . 1:ab", ". . 0:abc", ". . 3:", ". 1: 02:", "None 0:", ". (0, '')", "Effect(1, (None, (0, '')))", ". 0;", ". a:0",
    f". {HUGE}:", ". " + "9" * 50 + ":", ". \u0661:", ". \xb2:", ". 0:\xe4", "\u0662: .", ". 0 :", ".: .", ". .:",
)


def text_of(effect):
    return " ".join("." if row is None else f"{row[0]}:{row[1]}" for row in effect.rows)


class FormatTest(unittest.TestCase):
    def test_examples(self):
        self.assertEqual(format_effect(effect_of("-", 1, "oldest")), ". 0:")

    def test_small_cases(self):
        for rows, text in (
            ((None, None), ". ."), (((0, ""), (1, "")), "0: 1:"), (((0, "z"), (0, "a")), "0:z 0:a"),
            ((None, (0, "ab"), (1, "c")), ". 0:ab 1:c"), (((0, ""), None, (2, "")), "0: . 2:"),
        ):
            self.assertEqual(format_effect(Effect(len(rows) - 1, rows)), text)
            self.assertIs(type(format_effect(Effect(len(rows) - 1, rows))), str)

    def test_the_bounds_of_capacities(self):
        self.assertEqual(format_effect(Effect.identity(100)), " ".join(f"{length}:" for length in range(101)))
        self.assertEqual(format_effect(Effect.failing(100)), " ".join("." * 101))
        full = Effect(100, [(0, "ab" * 50)] * 101)
        self.assertEqual(format_effect(full), " ".join(["0:" + "ab" * 50] * 101))

    def test_errors(self):
        for value in NO_EFFECTS + (". 0:",):
            with self.assertRaises(InvalidEffect) as caught:
                format_effect(value)
            self.assertIsNone(caught.exception.position)
        self.assertEqual(format_effect(effect=Effect.identity(1)), "0: 1:")


class ParseTest(unittest.TestCase):
    def test_examples(self):
        self.assertEqual(parse_effect(". 0:").rows, (None, (0, "")))

    def test_all_small_effects(self):
        for effect in all_effects(1, "abz") + all_effects(2, "ab") + all_effects(3, "a"):
            text = format_effect(effect)
            self.assertEqual(text, text_of(effect))
            found = parse_effect(text)
            self.assertIs(type(found), Effect)
            self.assertEqual(found, effect)
            self.assertIs(type(found.rows), tuple)

    def test_random_effects_and_effects_of_programs(self):
        source = random.Random(161)
        effects = [random_effect(source, capacity, "abcxyz") for capacity in (1, 4, 9, 10, 11, 50, 99, 100) * 8]
        for program in random_programs(20, seed=162) + [f"(ab-){HUGE}", "(-a)200"]:
            effects += [effect_of(program, capacity, mode) for capacity in (1, 5, 100) for mode in MODES]
        for effect in effects:
            self.assertEqual(parse_effect(format_effect(effect)), effect)

    def test_texts_of_2_and_of_101_rows(self):
        self.assertEqual(parse_effect(". .").capacity, 1)
        self.assertEqual(parse_effect(" ".join(["."] * 101)).capacity, 100)
        self.assertEqual(parse_effect(" ".join(f"{length}:" for length in range(101))), Effect.identity(100))
        self.assertEqual(parse_effect(" ".join(["0:" + "ab" * 50] * 101)).rows, ((0, "ab" * 50),) * 101)
        for many in (1, 102, 103, 200):
            for word in (".", "0:"):
                with self.assertRaises(InvalidText):
                    parse_effect(" ".join([word] * many))

    def test_texts_that_are_rejected(self):
        for text in NO_TEXTS + OTHER_KINDS + (b". 0:", [".", "0:"], (".", "0:"), Effect.identity(1), ((None, (0, "")),)):
            with self.assertRaises(InvalidText, msg=repr(text)) as caught:
                parse_effect(text)
            self.assertIs(type(caught.exception), InvalidText)

    def test_all_short_texts(self):
        known = {format_effect(effect): effect for effect in all_effects(1, "a") + all_effects(2, "a")}
        found = set()
        for text in queues(6, "0:. a1"):
            if text in known:
                self.assertEqual(parse_effect(text), known[text])
                found.add(text)
            else:
                with self.assertRaises(InvalidText):
                    parse_effect(text)
        self.assertGreater(len(found), 10)

    def test_one_character_more_fewer_or_changed(self):
        source = random.Random(163)
        effects = all_effects(1, "a") + [random_effect(source, capacity) for capacity in (2, 3, 11, 12)]
        accepted = 0
        for effect in effects:
            for text in mutations(format_effect(effect), source, "0123: .ab-"):
                try:
                    found = parse_effect(text)
                except InvalidText:
                    continue
                # Only what formatting produces is accepted.
                self.assertEqual(text_of(found), text)
                accepted += 1
        self.assertGreater(accepted, 20)

    def test_kept_letters_up_to_the_start_length(self):
        for capacity in (1, 2, 11, 100):
            for length in {0, 1, capacity - 1, capacity}:
                words = ["."] * (capacity + 1)
                words[length] = f"{length}:" + "a" * (capacity - length)
                self.assertEqual(parse_effect(" ".join(words))[length], (length, "a" * (capacity - length)))
                for word in (f"{length + 1}:", f"{length}:" + "a" * (capacity - length + 1), f"0{length}:", f"{length}: ", f"{length}"):
                    words[length] = word
                    with self.assertRaises(InvalidText):
                        parse_effect(" ".join(words))

    def test_arguments_by_name(self):
        self.assertEqual(parse_effect(text="0: 1:"), Effect.identity(1))


if __name__ == "__main__":
    unittest.main()
