"""[5]: the errors, what they are derived from and what they hold."""

import unittest

from hourrings import errors

WITH_VALUE = """InvalidNumber InvalidKind InvalidName InvalidNames InvalidLine InvalidLines InvalidBook InvalidNumbers
InvalidRing InvalidWay InvalidPaper InvalidRow InvalidPeriod InvalidChoices InvalidPicks InvalidThings InvalidText
InvalidDeed Unlike AtOdds TooMany""".split()
WITHOUT = ["NothingToUndo", "NothingToRedo"]


class Errors(unittest.TestCase):
    def test_derived(self):
        self.assertEqual(errors.HourError.__bases__, (ValueError,))
        for name in WITH_VALUE + WITHOUT:
            self.assertEqual(getattr(errors, name).__bases__, (errors.HourError,), name)

    def test_no_others(self):
        made = [name for name, value in vars(errors).items() if isinstance(value, type)]
        self.assertEqual(sorted(made), sorted(WITH_VALUE + WITHOUT + ["HourError"]))

    def test_made_with_a_value(self):
        for name in WITH_VALUE:
            made = getattr(errors, name)
            for value in ([1, [2]], {"a": 1}, ("a",), object(), "text", 0, False, None, errors.InvalidName(1)):
                self.assertIs(made(value).value, value)
                self.assertIs(made(value=value).value, value)
                with self.assertRaises(made) as caught:
                    raise made(value)
                self.assertIs(caught.exception.value, value)
                self.assertIsInstance(caught.exception, ValueError)
            self.assertIsNone(made().value)
            self.assertEqual(list(vars(made(3))), ["value"])
            self.assertRaises(TypeError, made, 1, 2)
            self.assertRaises(TypeError, made, other=1)

    def test_made_with_nothing(self):
        for name in WITHOUT:
            error = getattr(errors, name)()
            self.assertFalse(hasattr(error, "value"))
            self.assertEqual(vars(error), {})
            self.assertIsInstance(error, ValueError)

    def test_hour_error_is_made_like_a_value_error(self):
        self.assertEqual(errors.HourError("one", 2).args, ("one", 2))
        self.assertEqual(str(errors.HourError("one")), "one")
        self.assertEqual(errors.HourError().args, ())
        self.assertEqual(vars(errors.HourError("one")), {})
        self.assertFalse(hasattr(errors.HourError(), "value"))

    def test_one_error_is_not_caught_as_another(self):
        for name in WITH_VALUE + WITHOUT:
            for other in WITH_VALUE + WITHOUT:
                self.assertEqual(issubclass(getattr(errors, name), getattr(errors, other)), name == other)


if __name__ == "__main__":
    unittest.main()
