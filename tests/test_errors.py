"""The classes of refusals [3]."""

import unittest

from tonguegate import errors

NAMES = (
    "NoPart", "Full", "NoPicture", "NoRoom", "NoBlock", "WrongHand",
    "NoWord", "NoText", "NoThing", "NoProgram", "NoDoor", "NoWorths",
)


class RefusalClasses(unittest.TestCase):

    def test_the_base_stands_straight_under_value_error(self):
        self.assertEqual(errors.GateError.__bases__, (ValueError,))

    def test_each_stands_straight_under_the_base(self):
        for name in NAMES:
            with self.subTest(name=name):
                self.assertEqual(getattr(errors, name).__bases__, (errors.GateError,))
                self.assertTrue(issubclass(getattr(errors, name), ValueError))

    def test_none_stands_under_another_one(self):
        for name in NAMES:
            for other in NAMES:
                with self.subTest(name=name, other=other):
                    under = issubclass(getattr(errors, name), getattr(errors, other))
                    self.assertEqual(under, name == other)

    def test_each_has_its_own_name(self):
        for name in NAMES + ("GateError",):
            with self.subTest(name=name):
                self.assertEqual(getattr(errors, name).__name__, name)

    def test_there_are_no_others(self):
        classes = {name for name, value in vars(errors).items() if isinstance(value, type)}
        self.assertEqual(classes, set(NAMES) | {"GateError"})

    def test_each_is_caught_as_its_own_class_and_as_the_base(self):
        for name in NAMES:
            refusal = getattr(errors, name)
            for caught in (refusal, errors.GateError, ValueError):
                with self.subTest(name=name, caught=caught):
                    with self.assertRaises(caught):
                        raise refusal("why")


if __name__ == "__main__":
    unittest.main()
