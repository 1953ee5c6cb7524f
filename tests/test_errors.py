import unittest

from fullqueue import errors

VALUE_ERRORS = (
    "InvalidInteger", "InvalidLetter", "InvalidCapacity", "InvalidMode", "InvalidQueue", "InvalidProgram",
    "InvalidUser", "InvalidText", "InvalidCommand", "InvalidEffect", "InvalidFacts", "CapacityMismatch", "RunFailed",
)

BASES = {
    **{name: errors.QueueError for name in VALUE_ERRORS},
    "QueueError": ValueError,
    "EmptyQueue": LookupError,
    "EffectFailed": LookupError,
    "BufferFailed": LookupError,
    "FullQueue": OverflowError,
    "LimitExceeded": OverflowError,
    "NothingToUndo": RuntimeError,
}

FIELDS = {
    "InvalidEffect": ("position",),
    "InvalidFacts": ("position",),
    "CapacityMismatch": ("first", "second"),
    "RunFailed": ("position",),
    "EffectFailed": ("length",),
    "BufferFailed": ("index",),
    "LimitExceeded": ("size",),
}

VALUES = (None, True, 0, -3, 10 ** 5000, "", "text", b"x", (), [1], {"a": 1}, {1}, object(), ValueError("x"))


class ErrorsTest(unittest.TestCase):
    def test_each_class_derives_from_the_named_class_only(self):
        self.assertEqual(len(BASES), 20)
        for name, base in BASES.items():
            self.assertEqual(getattr(errors, name).__bases__, (base,), name)

    def test_errors_are_created_with_a_message(self):
        for name in BASES:
            if name not in FIELDS:
                self.assertEqual(str(getattr(errors, name)("some words")), "some words")

    def test_a_message_may_be_any_value(self):
        for name in BASES:
            if name not in FIELDS:
                for value in VALUES:
                    self.assertIsInstance(getattr(errors, name)(value), BASES[name])

    def test_parameters_are_kept_in_fields_by_position_and_by_name(self):
        for name, fields in FIELDS.items():
            made = getattr(errors, name)
            for value in VALUES:
                arguments = [(value, at) for at in range(len(fields))]
                by_position = made(*arguments)
                by_name = made(**dict(zip(fields, arguments)))
                for field, argument in zip(fields, arguments):
                    self.assertIs(getattr(by_position, field), argument)
                    self.assertIs(getattr(by_name, field), argument)

    def test_fields_keep_the_very_value(self):
        for name, fields in FIELDS.items():
            for value in VALUES:
                error = getattr(errors, name)(*[value for _ in fields])
                for field in fields:
                    self.assertIs(getattr(error, field), value)
                str(error)

    def test_parameters_are_required(self):
        for name, fields in FIELDS.items():
            for many in (0, len(fields) + 1):
                with self.assertRaises(TypeError):
                    getattr(errors, name)(*range(many))

    def test_errors_are_raised_and_caught_by_their_bases(self):
        for name, base in BASES.items():
            with self.assertRaises(base):
                raise getattr(errors, name)(*range(len(FIELDS.get(name, "m"))))


if __name__ == "__main__":
    unittest.main()
