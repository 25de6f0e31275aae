"""The refusals: all of them under the base, none under another one [2]."""

import unittest

from kindhall import errors

REFUSALS = ["NoText", "TooDeep", "NoKind", "NoThing", "NoSaying", "TooMany", "Full"]


class Refusals(unittest.TestCase):
    def test_base_is_a_value_error(self):
        self.assertTrue(issubclass(errors.HallError, ValueError))
        self.assertEqual(errors.HallError.__bases__, (ValueError,))

    def test_each_is_caught_by_the_base_and_by_value_error(self):
        for name in REFUSALS:
            for caught in (errors.HallError, ValueError):
                with self.subTest(name=name, caught=caught), self.assertRaises(caught):
                    raise getattr(errors, name)("why")

    def test_none_is_caught_by_another(self):
        for name in REFUSALS:
            for other in REFUSALS:
                with self.subTest(name=name, other=other):
                    error = getattr(errors, name)("why")
                    self.assertEqual(isinstance(error, getattr(errors, other)), name == other)

    def test_the_base_is_no_refusal_of_a_sort(self):
        for name in REFUSALS:
            with self.subTest(name=name):
                self.assertNotIsInstance(errors.HallError("why"), getattr(errors, name))


if __name__ == "__main__":
    unittest.main()
