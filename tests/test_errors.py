import unittest

from formlens import errors

KINDS = ["NoField", "Taken", "BadForm", "BadName", "BadNumber", "BadStep", "NoForm", "NoRecord", "TooMany"]


class TestErrors(unittest.TestCase):
    def test_any_refusal_is_a_value_error(self):
        self.assertEqual(errors.FormError.__bases__, (ValueError,))
        self.assertEqual(errors.FormError.__module__, "formlens.errors")

    def test_each_kind_stands_straight_under_any_refusal(self):
        for kind in KINDS:
            with self.subTest(kind=kind):
                error = getattr(errors, kind)
                self.assertEqual(error.__bases__, (errors.FormError,))
                self.assertEqual(error.__module__, "formlens.errors")
                self.assertEqual(error.__name__, kind)

    def test_none_is_under_another(self):
        for kind in KINDS:
            for other in KINDS:
                under = issubclass(getattr(errors, kind), getattr(errors, other))
                self.assertEqual(under, kind == other, (kind, other))

    def test_each_kind_is_caught_as_any_refusal_and_as_a_value_error(self):
        for kind in KINDS:
            for caught in (errors.FormError, ValueError):
                with self.assertRaises(caught):
                    raise getattr(errors, kind)("refused")
