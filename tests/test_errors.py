import unittest

from ringstairs import errors

ALL = (
    "InvalidChain", "InvalidDeal", "InvalidTuple", "InvalidWeb", "InvalidHeap", "InvalidMap", "InvalidWord",
    "InvalidFilling", "InvalidBox", "InvalidName", "InvalidOperation", "ParseError",
)
OTHERS = {
    "InvalidNumber": (IndexError, "given"),
    "UnknownName": (KeyError, "asked"),
    "NothingToUndo": (LookupError, "many"),
    "TooMany": (OverflowError, "limit"),
    "Refused": (ArithmeticError, "reason"),
}


class TestErrors(unittest.TestCase):
    def test_ring_errors_derive_from_one_another_as_told(self):
        self.assertEqual(errors.RingError.__bases__, (ValueError,))
        for name in ALL:
            self.assertEqual(getattr(errors, name).__bases__, (errors.RingError,), name)

    def test_others_derive_directly_from_errors_of_python(self):
        for name, (base, _) in OTHERS.items():
            self.assertEqual(getattr(errors, name).__bases__, (base,), name)
            self.assertFalse(issubclass(getattr(errors, name), errors.RingError))

    def test_each_error_keeps_what_it_takes(self):
        kept = dict(OTHERS, ParseError=(None, "spot"))
        for name, (_, attribute) in kept.items():
            for value in (None, 0, True, "text", (1, 2), [1], {"a": 1}, 10 ** 100, ("call", 3)):
                made = getattr(errors, name)(value)
                self.assertIs(getattr(made, attribute), value)
                with self.assertRaises(getattr(errors, name)):
                    raise made

    def test_others_take_a_message_or_any_one_value(self):
        for name in ALL[:-1] + ("RingError",):
            for value in ("a message", None, (1, 2), {"a": 1}):
                self.assertIsInstance(getattr(errors, name)(value), ValueError)

    def test_they_are_defined_in_this_file(self):
        for name in ALL + tuple(OTHERS) + ("RingError",):
            self.assertEqual(getattr(errors, name).__module__, "ringstairs.errors")


if __name__ == "__main__":
    unittest.main()
