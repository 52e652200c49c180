"""The names, arguments and places of the interface, for the stages that have landed ([0.3])."""

import importlib
import inspect
import unittest

SIGNATURES = {
    "driveends.numbers.numbers": (
        "is_modulus(value)", "is_vector(modulus, value, *, length=None)", "is_matrix(modulus, width, value)",
        "inverse(modulus, number)", "added(modulus, vector, *others)", "scaled(modulus, number, vector)",
        "dot(modulus, one, other)", "combination(modulus, width, vectors, factors)",
        "product(modulus, width, one, other)", "transposed(modulus, width, matrix)",
    ),
    "driveends.spaces.spaces": (
        "reduced(modulus, width, vectors)", "is_reduced(modulus, width, value)",
        "contains(modulus, width, vectors, vector)", "solve(modulus, width, vectors, target)",
        "is_solution(modulus, width, vectors, target, value)", "sum_of(modulus, width, *spaces)",
        "meet_of(modulus, width, *spaces)", "sum_all(modulus, width, spaces)", "meet_all(modulus, width, spaces)",
        "complement(modulus, width, vectors)", "projected(modulus, width, vectors, columns)",
        "section(modulus, width, vectors, columns)", "is_column_basis(modulus, width, vectors, columns)",
        "column_bases(modulus, width, vectors)",
    ),
}
CONSTANTS = {"driveends.numbers.numbers": {"MAX_MODULUS": 97, "MAX_WIDTH": 100, "MAX_VECTORS": 100}}
GENERATORS = ("column_bases",)


class InterfaceTests(unittest.TestCase):
    def test_functions(self):
        for place, signatures in SIGNATURES.items():
            module = importlib.import_module(place)
            for signature in signatures:
                name = signature.partition("(")[0]
                function = getattr(module, name)
                self.assertTrue(inspect.isfunction(function), name)
                self.assertEqual(name + str(inspect.signature(function)), signature)
                self.assertEqual(function.__module__, place)
                self.assertEqual(inspect.isgeneratorfunction(function), name in GENERATORS)

    def test_constants(self):
        for place, constants in CONSTANTS.items():
            module = importlib.import_module(place)
            for name, value in constants.items():
                self.assertEqual(getattr(module, name), value)
                self.assertIs(type(getattr(module, name)), type(value))


if __name__ == "__main__":
    unittest.main()
