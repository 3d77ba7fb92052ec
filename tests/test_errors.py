"""Promise [2] and the interface of sheetmoves/errors.py."""

import unittest

from sheetmoves import errors
from sheetmoves.books import Book
from sheetmoves.stands import Stand

PARAMETERS = {
    "BadStand": ("part",),
    "BadBook": ("part",),
    "BadText": ("line",),
    "BadScript": ("part",),
    "OtherKinds": (),
    "UnknownName": ("name",),
    "Clash": ("name",),
    "TooFar": ("most", "sides"),
    "BadRound": ("paper",),
    "NoBook": (),
    "InvalidCommand": (),
}


def nested(depth):
    thing = [0]
    for _ in range(depth):
        thing = [thing]
    return thing


def any_values():
    return [
        None, True, False, 0, 1, -1, 10 ** 400, -10 ** 400, "", "order", "a\nb", "x" * 20000,
        (), (1, (2, ("a",))), [], [1, [2]], {}, {"a": [1]}, nested(29),
        Stand("a", ((0, 0, "a", 1),)), Book("a", (("lie", ((0, 0, "a", 1),)),)),
    ]


class TestFamily(unittest.TestCase):
    def test_each_is_a_direct_subclass(self):
        self.assertEqual(errors.SheetError.__bases__, (Exception,))
        for name in PARAMETERS:
            with self.subTest(name):
                self.assertEqual(getattr(errors, name).__bases__, (errors.SheetError,))

    def test_each_is_defined_here(self):
        for name in ["SheetError", *PARAMETERS]:
            with self.subTest(name):
                found = getattr(errors, name)
                self.assertEqual((found.__module__, found.__name__), ("sheetmoves.errors", name))

    def test_each_is_caught_as_a_sheet_error_and_as_itself(self):
        for name, parameters in PARAMETERS.items():
            with self.subTest(name):
                with self.assertRaises(errors.SheetError) as caught:
                    raise getattr(errors, name)(*parameters)
                self.assertIsInstance(caught.exception, getattr(errors, name))

    def test_none_belongs_to_another(self):
        for name, parameters in PARAMETERS.items():
            made = getattr(errors, name)(*parameters)
            for other in PARAMETERS:
                with self.subTest(name, other=other):
                    self.assertEqual(isinstance(made, getattr(errors, other)), name == other)

    def test_none_is_an_error_of_python(self):
        for name, parameters in PARAMETERS.items():
            with self.subTest(name):
                made = getattr(errors, name)(*parameters)
                self.assertNotIsInstance(made, (ValueError, LookupError, TypeError, RuntimeError))


class TestParameters(unittest.TestCase):
    def test_one_by_position(self):
        for name, parameters in PARAMETERS.items():
            for value in any_values() if len(parameters) == 1 else ():
                with self.subTest(name):
                    self.assertIs(getattr(getattr(errors, name)(value), parameters[0]), value)

    def test_one_by_name(self):
        for name, parameters in PARAMETERS.items():
            for value in any_values() if len(parameters) == 1 else ():
                with self.subTest(name):
                    made = getattr(errors, name)(**{parameters[0]: value})
                    self.assertIs(getattr(made, parameters[0]), value)

    def test_the_very_value_is_kept_when_raised(self):
        for name, parameters in PARAMETERS.items():
            if len(parameters) == 1:
                value = ["kept", name]
                with self.subTest(name):
                    with self.assertRaises(errors.SheetError) as caught:
                        raise getattr(errors, name)(value)
                    self.assertIs(getattr(caught.exception, parameters[0]), value)
                    self.assertEqual(value, ["kept", name])

    def test_too_far_by_position(self):
        for value in any_values():
            other = ["other"]
            made = errors.TooFar(value, other)
            self.assertIs(made.most, value)
            self.assertIs(made.sides, other)

    def test_too_far_by_name(self):
        for value in any_values():
            other = ["other"]
            for made in (errors.TooFar(sides=value, most=other), errors.TooFar(other, sides=value)):
                self.assertIs(made.most, other)
                self.assertIs(made.sides, value)

    def test_without_parameters(self):
        for name, parameters in PARAMETERS.items():
            if not parameters:
                with self.subTest(name):
                    self.assertIsInstance(getattr(errors, name)(), errors.SheetError)

    def test_two_of_one_class_keep_their_own_values(self):
        one, other = errors.BadText(1), errors.BadText(2)
        self.assertEqual((one.line, other.line), (1, 2))


if __name__ == "__main__":
    unittest.main()
