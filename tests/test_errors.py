"""[1.1]: the errors, what they derive from and what they keep; [0.2] for what they keep."""

from showncalls import errors
from tests.helper import HUGE, MIRROR, ODD, Case

WITH_MESSAGE = (
    "InvalidFact", "InvalidProgram", "InvalidLog", "InvalidRun",
    "InvalidKnowing", "InvalidTable", "InvalidOperation", "InvalidCommand",
)
KEEPING = {
    "ParseError": ("line", errors.CallError),
    "UnknownName": ("name", KeyError),
    "InvalidNumber": ("value", IndexError),
    "NothingToUndo": ("many", LookupError),
    "Unseen": ("line", LookupError),
    "Refused": ("name", ArithmeticError),
    "TooMany": ("limit", OverflowError),
}


class Errors(Case):
    def test_call_error_is_a_value_error(self):
        self.assertEqual(errors.CallError.__bases__, (ValueError,))
        with self.assertRaises(ValueError):
            raise errors.CallError("message")

    def test_those_with_a_message_derive_directly_from_call_error(self):
        for name in WITH_MESSAGE:
            with self.subTest(name=name):
                made = getattr(errors, name)("message")
                self.assertEqual(made.__class__.__bases__, (errors.CallError,))

    def test_those_that_keep_something_derive_from_their_base(self):
        for name, (attribute, base) in KEEPING.items():
            with self.subTest(name=name):
                self.assertEqual(getattr(errors, name).__bases__, (base,))

    def test_none_derives_from_another_one(self):
        classes = [getattr(errors, name) for name in WITH_MESSAGE + tuple(KEEPING)]
        for one in classes:
            for other in classes:
                self.assertEqual(issubclass(one, other), one is other)
        for name in KEEPING:
            due = name == "ParseError"
            self.assertEqual(issubclass(getattr(errors, name), errors.CallError), due)

    def test_what_they_keep(self):
        for name, (attribute, base) in KEEPING.items():
            for value in ODD + ("abc", ("say", "at", 1), 400):
                with self.subTest(name=name, value=value):
                    self.same(getattr(getattr(errors, name)(value), attribute), value)

    def test_by_keyword_too(self):
        for name, (attribute, base) in KEEPING.items():
            self.assertEqual(getattr(getattr(errors, name)(**{attribute: 7}), attribute), 7)

    def test_they_can_be_raised_and_shown(self):
        for name in KEEPING:
            for value in (None, HUGE, MIRROR, "q"):
                with self.assertRaises(getattr(errors, name)) as caught:
                    raise getattr(errors, name)(value)
                self.assertIsInstance(str(caught.exception), str)

    def test_a_value_that_is_changed_afterwards_is_kept_as_it_was(self):
        for name, (attribute, base) in KEEPING.items():
            passed = [1, ([2], {"x": [3]})]
            made = getattr(errors, name)(passed)
            passed[1][0].append(4)
            passed[1][1]["x"].append(4)
            passed[1][1]["y"] = 4
            passed.append(4)
            self.assertEqual(getattr(made, attribute), [1, ([2], {"x": [3]})])
