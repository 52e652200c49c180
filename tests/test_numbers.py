"""[1.1], [1.2], [0.1], [0.2], [0.7]: driveends.numbers.numbers, results."""

import unittest

from driveends.errors import DriveError, InvalidNumber
from driveends.numbers.numbers import (
    MAX_MODULUS, MAX_VECTORS, MAX_WIDTH, added, combination, dot, inverse, is_matrix, is_modulus, is_vector, product,
    scaled, transposed,
)
from tests.helper import all_matrices, all_vectors, caught, combine, nested, scrambled, times, unit

PRIMES = (2, 3, 5, 7, 11, 13, 17, 19, 23, 29, 31, 37, 41, 43, 47, 53, 59, 61, 67, 71, 73, 79, 83, 89, 97)
NO_INTEGERS = (
    None, True, False, "", "2", "a\nb", (), (2,), [], [2], {}, {2: 2}, nested(9, 2), DriveError("2"), InvalidNumber(2),
)


class ExampleTests(unittest.TestCase):
    def test_kinds(self):
        found = [
            is_modulus(97), is_modulus(91), is_vector(5, (4, 0)), is_vector(5, (5,)), is_vector(5, (1, 2), length=3),
            is_matrix(5, 2, ()),
        ]
        self.assertEqual(found, [True, False, True, False, False, True])

    def test_inverse(self):
        self.assertEqual([inverse(5, 2), inverse(97, 96)], [3, 96])
        error = caught(inverse, 5, 0)
        self.assertEqual((type(error), error.value), (InvalidNumber, 0))

    def test_vectors(self):
        found = [added(5, (1, 4)), added(5, (1, 4), (4, 4), (1, 1)), scaled(5, 2, (3, 0)), dot(5, (1, 2), (3, 4))]
        self.assertEqual(found, [(1, 4), (1, 4), (1, 0), 1])

    def test_combination(self):
        found = [combination(5, 3, ((1, 0, 2), (0, 1, 1)), (2, 4)), combination(5, 3, (), ())]
        self.assertEqual(found, [(2, 4, 3), (0, 0, 0)])

    def test_matrices(self):
        found = [
            product(5, 2, ((1, 2), (0, 3)), ((1, 1), (4, 0))), transposed(5, 3, ((1, 0, 2),)), transposed(5, 2, ()),
        ]
        self.assertEqual(found, [((4, 1), (2, 0)), ((1,), (0,), (2,)), ((), ())])


class KindTests(unittest.TestCase):
    def test_constants(self):
        self.assertEqual((MAX_MODULUS, MAX_WIDTH, MAX_VECTORS), (97, 100, 100))

    def test_modulus(self):
        for value in range(-5, 130):
            self.assertIs(is_modulus(value), value in PRIMES, value)
        for value in NO_INTEGERS + (10 ** 40 + 1, -(10 ** 40), 101, 2 ** 61 - 1):
            self.assertIs(is_modulus(value), False, value)

    def test_right_vectors(self):
        for modulus in PRIMES:
            for value in ((), (0,), (modulus - 1,), (0, 1, modulus - 1), (1,) * 100, (1,) * 101):
                self.assertIs(is_vector(modulus, value), True)
                self.assertIs(is_vector(modulus, value, length=None), True)
                self.assertIs(is_vector(modulus, value, length=len(value)), True)
                self.assertIs(is_vector(modulus, value, length=len(value) + 1), False)
                self.assertIs(is_vector(modulus, value, length=len(value) - 1), False)

    def test_wrong_entries(self):
        for modulus in PRIMES:
            for entry in NO_INTEGERS + (-1, modulus, modulus + 1, 10 ** 30, -(10 ** 30)):
                for value in ((entry,), (0, entry), (entry, 1), (1, 0, entry, 1)):
                    self.assertIs(is_vector(modulus, value), False)
                    self.assertIs(is_vector(modulus, value, length=len(value)), False)
                    self.assertIs(is_matrix(modulus, len(value), (value,)), False)
                    self.assertIs(is_matrix(modulus, len(value), ((0,) * len(value), value)), False)

    def test_other_kinds(self):
        kinds = (None, True, False, 0, 3, "", "01", [], [0, 1], {}, {0: 1}, DriveError("0"))
        for value in kinds + ([(0, 1)], {(0, 1): 1}):
            self.assertIs(is_vector(5, value), False)
            self.assertIs(is_vector(5, value, length=2), False)
            self.assertIs(is_matrix(5, 2, value), False)
            self.assertIs(is_matrix(5, 0, value), False)
        for vector in kinds + ((0,), (0, 1, 2), (), ((0, 1),), nested(8, 0)):
            self.assertIs(is_matrix(5, 2, (vector,)), False)
            self.assertIs(is_matrix(5, 2, ((0, 1), vector)), False)
            self.assertIs(is_matrix(5, 2, (vector, (0, 1))), False)

    def test_right_matrices(self):
        for width in (0, 1, 2, 99, 100):
            for many in (0, 1, 2, 99, 100):
                self.assertIs(is_matrix(7, width, ((6,) * width,) * many), True)
                if many:
                    self.assertIs(is_matrix(7, width, ((6,) * (width + 1),) * many), False)
        self.assertIs(is_matrix(7, 2, ((6, 6),) * 101), False)
        self.assertIs(is_matrix(7, 0, ((),) * 101), False)
        self.assertIs(is_matrix(7, 100, ((0,) * 100,) * 100), True)


class ArithmeticTests(unittest.TestCase):
    def test_inverse(self):
        for modulus in PRIMES:
            for number in range(1, modulus):
                found = inverse(modulus, number)
                self.assertIs(type(found), int)
                self.assertTrue(0 < found < modulus)
                self.assertEqual(number * found % modulus, 1)

    def test_two_vectors(self):
        for modulus, width in ((2, 0), (2, 3), (3, 2), (5, 2), (97, 1)):
            for one in all_vectors(modulus, width):
                for other in all_vectors(modulus, width):
                    total = tuple((one[at] + other[at]) % modulus for at in range(width))
                    self.assertEqual(added(modulus, one, other), total)
                    self.assertEqual(dot(modulus, one, other), times(modulus, one, other))

    def test_scaled(self):
        for modulus, width in ((2, 0), (2, 3), (3, 3), (5, 2), (97, 1)):
            for vector in all_vectors(modulus, width):
                self.assertEqual(added(modulus, vector), vector)
                for number in range(modulus):
                    expected = tuple(number * entry % modulus for entry in vector)
                    self.assertEqual(scaled(modulus, number, vector), expected)

    def test_many_vectors(self):
        vectors = scrambled(97, 100, 120)
        expected = tuple(sum(vector[at] for vector in vectors) % 97 for at in range(100))
        self.assertEqual(added(97, *vectors), expected)
        self.assertEqual(added(97, *[()] * 120), ())
        self.assertEqual(added(2, *[(1, 0)] * 101), (1, 0))

    def test_combination(self):
        for modulus, width, most in ((2, 2, 3), (3, 2, 2), (5, 1, 2), (3, 0, 2)):
            for vectors in all_matrices(modulus, width, most):
                for factors in all_vectors(modulus, len(vectors)):
                    expected = combine(modulus, width, vectors, factors)
                    self.assertEqual(combination(modulus, width, vectors, factors), expected)

    def test_product(self):
        for modulus, width, many in ((2, 2, 2), (3, 1, 2), (3, 2, 1), (2, 0, 2), (2, 3, 0)):
            others = [other for other in all_matrices(modulus, width, many) if len(other) == many]
            for other in others:
                for one in all_matrices(modulus, many, 2):
                    expected = tuple(combine(modulus, width, other, row) for row in one)
                    self.assertEqual(product(modulus, width, one, other), expected)

    def test_transposed(self):
        for modulus, width, most in ((2, 2, 3), (3, 3, 1), (2, 0, 3)):
            for matrix in all_matrices(modulus, width, most):
                found = transposed(modulus, width, matrix)
                self.assertEqual(len(found), width)
                for at in range(width):
                    self.assertEqual(found[at], tuple(vector[at] for vector in matrix))
                self.assertEqual(transposed(modulus, len(matrix), found), matrix)

    def test_without_vectors_or_entries(self):
        self.assertEqual((added(5, ()), scaled(5, 3, ()), dot(5, (), ())), ((), (), 0))
        self.assertEqual(combination(5, 0, (), ()), ())
        self.assertEqual(combination(5, 0, ((), ()), (1, 2)), ())
        self.assertEqual(combination(5, 100, (), ()), (0,) * 100)
        self.assertEqual(product(5, 3, (), ()), ())
        self.assertEqual(product(5, 3, ((), ()), ()), ((0, 0, 0), (0, 0, 0)))
        self.assertEqual(product(5, 0, ((1, 2),), ((), ())), ((),))
        self.assertEqual(transposed(5, 0, ((), ())), ())
        self.assertEqual(transposed(5, 100, ()), ((),) * 100)

    def test_width_100(self):
        one, other = scrambled(97, 100, 100), scrambled(97, 100, 100, seed=2)
        self.assertEqual(dot(97, one[0], other[0]), times(97, one[0], other[0]))
        self.assertEqual(scaled(97, 96, one[0]), tuple(96 * entry % 97 for entry in one[0]))
        self.assertEqual(combination(97, 100, one, other[0]), combine(97, 100, one, other[0]))
        columns = transposed(97, 100, one)
        self.assertEqual(columns, tuple(zip(*one)))
        self.assertEqual(transposed(97, 100, columns), one)
        units = tuple(unit(100, at) for at in range(100))
        self.assertEqual(product(97, 100, units, one), one)
        self.assertEqual(product(97, 100, one, units), one)
        found = product(97, 100, one, other)
        self.assertEqual(found[99], combine(97, 100, other, one[99]))
        self.assertEqual(dot(97, (96,) * 100, (96,) * 100), 3)

    def test_vectors_may_be_longer_than_any_width(self):
        self.assertEqual(dot(2, (1,) * 301, (1,) * 301), 1)
        self.assertEqual(scaled(3, 2, (1,) * 301), (2,) * 301)
        self.assertEqual(added(3, (1,) * 301, (1,) * 301), (2,) * 301)


if __name__ == "__main__":
    unittest.main()
