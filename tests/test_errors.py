"""[0.14], [0.15]: the error classes."""

import inspect
import unittest

from driveends import errors

WITH_MESSAGE = (
    "InvalidModulus", "InvalidName", "InvalidVector", "InvalidMatrix", "InvalidPart", "InvalidDiagram",
    "InvalidEnds", "InvalidRecord", "InvalidGenerators", "InvalidBehaviour", "InvalidMachine",
    "InvalidOperation", "ParseError",
)
WITH_VALUE = {
    "UnknownName": (KeyError, "name"),
    "InvalidNumber": (IndexError, "value"),
    "TooLarge": (OverflowError, "limit"),
    "NotDriving": (ArithmeticError, "paper"),
    "Impossible": (RuntimeError, "time"),
    "Conflict": (LookupError, "name"),
}
VALUES = (None, True, 0, -3, "a", "", (), (1, "x"), [1, [2]], {"a": 1}, ("late", ((0, 1),)))


class ErrorTests(unittest.TestCase):
    def test_there_are_exactly_these_classes(self):
        found = [name for name, value in vars(errors).items() if inspect.isclass(value)]
        self.assertEqual(sorted(found), sorted(("DriveError",) + WITH_MESSAGE + tuple(WITH_VALUE)))
        for name in found:
            self.assertEqual(getattr(errors, name).__module__, "driveends.errors")

    def test_bases(self):
        self.assertEqual(errors.DriveError.__bases__, (ValueError,))
        for name in WITH_MESSAGE:
            self.assertEqual(getattr(errors, name).__bases__, (errors.DriveError,), name)
        for name, (base, _) in WITH_VALUE.items():
            self.assertEqual(getattr(errors, name).__bases__, (base,), name)

    def test_not_derived_from_one_another(self):
        names = WITH_MESSAGE + tuple(WITH_VALUE)
        for one in names:
            for other in names:
                related = issubclass(getattr(errors, one), getattr(errors, other))
                self.assertEqual(related, one == other, (one, other))
        for name in WITH_VALUE:
            self.assertFalse(issubclass(getattr(errors, name), (errors.DriveError, ValueError)), name)

    def test_messages(self):
        for name in ("DriveError",) + WITH_MESSAGE:
            kind = getattr(errors, name)
            for base in (kind, errors.DriveError, ValueError):
                with self.assertRaises(base) as held:
                    raise kind("what is wrong")
                self.assertIs(type(held.exception), kind)
                self.assertEqual(str(held.exception), "what is wrong")

    def test_attributes(self):
        for name, (base, attribute) in WITH_VALUE.items():
            kind = getattr(errors, name)
            for value in VALUES:
                for made in (kind(value), kind(**{attribute: value})):
                    with self.assertRaises(base) as held:
                        raise made
                    self.assertIs(type(held.exception), kind)
                    self.assertEqual(list(vars(held.exception)), [attribute])
                    self.assertIs(getattr(held.exception, attribute), value)

    def test_one_value_is_taken(self):
        for name in WITH_VALUE:
            self.assertRaises(TypeError, getattr(errors, name))
            self.assertRaises(TypeError, getattr(errors, name), 1, 2)

    def test_caught_by_its_own_name_only(self):
        with self.assertRaises(errors.Conflict):
            try:
                raise errors.Conflict("a")
            except (errors.UnknownName, errors.InvalidNumber, errors.DriveError):
                self.fail("another class caught it")


if __name__ == "__main__":
    unittest.main()
