import unittest

from oftenenough import errors
from tests.values import INTEGERS, NO_INTEGERS

FIELDS = (
    (errors.BadPlan, "place"),
    (errors.BadDay, "value"),
    (errors.BadRow, "place"),
    (errors.BadStanding, "value"),
    (errors.BadNumber, "value"),
    (errors.BadParts, "value"),
    (errors.BadPaper, "word"),
    (errors.BadText, "word"),
    (errors.TooGreat, "most"),
)
WITHOUT_FIELD = (errors.NothingLeft, errors.Never)
REFUSALS = tuple(kind for kind, _ in FIELDS if kind is not errors.TooGreat) + (errors.NothingLeft,)


class Bases(unittest.TestCase):
    def test_refusals_are_direct_subclasses_of_turn_error_alone(self):
        for kind in REFUSALS:
            self.assertEqual(kind.__bases__, (errors.TurnError,), kind)

    def test_the_other_three_are_direct_subclasses_of_an_error_of_python(self):
        self.assertEqual(errors.TurnError.__bases__, (ValueError,))
        self.assertEqual(errors.TooGreat.__bases__, (OverflowError,))
        self.assertEqual(errors.Never.__bases__, (LookupError,))

    def test_each_class_has_one_kind_of_base_and_none_of_the_others(self):
        for kind in REFUSALS + (errors.TurnError, errors.TooGreat, errors.Never):
            self.assertEqual(issubclass(kind, ValueError), kind not in (errors.TooGreat, errors.Never), kind)
            self.assertEqual(issubclass(kind, errors.TurnError), issubclass(kind, ValueError), kind)
            self.assertEqual(issubclass(kind, OverflowError), kind is errors.TooGreat, kind)
            self.assertEqual(issubclass(kind, LookupError), kind is errors.Never, kind)
            self.assertFalse(issubclass(kind, (KeyError, IndexError, TypeError)), kind)

    def test_each_class_is_defined_in_errors(self):
        for kind in REFUSALS + (errors.TurnError, errors.TooGreat, errors.Never):
            self.assertEqual(kind.__module__, "oftenenough.errors")


class Fields(unittest.TestCase):
    def test_any_value_is_kept_as_it_is_by_position_and_by_name(self):
        for kind, field in FIELDS:
            for value in NO_INTEGERS + INTEGERS + ((1, 2), object()):
                for made in (kind(value), kind(**{field: value})):
                    self.assertIs(getattr(made, field), value)
                    self.assertEqual(list(vars(made)), [field])

    def test_the_field_is_needed_and_no_other_one_is_taken(self):
        for kind, field in FIELDS:
            for values, named in (((), {}), ((1, 2), {}), ((1,), {field: 1}), ((), {"other": 1})):
                with self.assertRaises(TypeError):
                    kind(*values, **named)

    def test_those_without_a_field_are_made_without_arguments(self):
        for kind in WITHOUT_FIELD:
            self.assertEqual(vars(kind()), {})
            with self.assertRaises(TypeError):
                kind(1)

    def test_a_long_value_does_not_hinder_the_message(self):
        for kind, field in FIELDS:
            self.assertTrue(str(kind(10 ** 5000)))

    def test_turn_error_is_made_with_any_text(self):
        for text in ("", "no", "two\nlines", "x" * 20000):
            self.assertEqual(str(errors.TurnError(text)), text)

    def test_they_are_raised_and_caught_by_their_bases(self):
        for kind, field in FIELDS:
            with self.assertRaises(kind.__bases__[0]) as caught:
                raise kind((1, 2))
            self.assertEqual(getattr(caught.exception, field), (1, 2))
        with self.assertRaises(errors.TurnError):
            raise errors.NothingLeft()
        with self.assertRaises(LookupError):
            raise errors.Never()
