"""The errors of stages 1 and 2: each one alone, several at once, and that nothing is changed ([0.2], [0.4], [0.16])."""

import unittest
from itertools import combinations

from driveends import errors
from driveends.errors import InvalidMatrix, InvalidModulus, InvalidNumber, InvalidVector
from driveends.numbers import numbers
from driveends.spaces import spaces
from tests.helper import caught, nested, same

ODD_VALUES = (
    None, True, False, "", "5", "a\n~", [], {}, {"a": (1,)}, {0: 0}, nested(9, 1), nested(9, None), [[[0]]],
    errors.DriveError("a"), errors.InvalidNumber(0), 10 ** 40, -(10 ** 40),
)
MODULUS = ODD_VALUES + ((), (5,), [5], -5, 0, 1, 4, 91, 95, 98, 99, 101, 103)
WIDTH = ODD_VALUES + ((), (2,), [2], -1, -2, 101, 102)
NUMBER = ODD_VALUES + ((), (2,), [2], -1, 5, 6, 97)
# Wrong as vectors of any length; the others are wrong for the length 2.
VECTOR = ODD_VALUES + (0, 1, (5,), (1, 5), (-1, 0), (True, 0), (0, False), (None, 0), ("1", 0), ((0, 1),), [0, 1], {0: 1})
VECTOR_OF_2 = VECTOR + ((), (0,), (0, 1, 2))
MATRIX_OF_2 = ODD_VALUES + (
    0, 1, (1, 2), [(0, 1)], ([0, 1],), ((0, 1), [1, 0]), ((0,),), ((0, 1, 2),), ((),), ((0, 1), ()), ((0, 5),),
    ((0, 1), (True, 0)), ((0, 1), None), ((0, 1), (0, -1)), ((0, 0),) * 101, {(0, 1): 1}, (((0, 1),),), ("01",),
)
SPACES_OF_2 = ODD_VALUES + (0, 1, [((0, 1),)], ([(0, 1)],), ((0, 1),), (((0, 1),), None), (((0, 1, 2),),), ((),) * 101)
COLUMNS_OF_2 = ODD_VALUES + (
    0, 1, [], [0], [0, 1], (2,), (-1,), (-1, 0), (0, 2), (1, 0), (0, 0), (1, 1), (0, 1, 1), (True,), (0, True), (False, 1),
    (None,), ("0",), ((0,),), (0, None), (0, 1, 2), {0: 1},
)

GOOD = {
    "modulus": 5, "width": 2, "number": 3, "vector": (1, 4), "one": (1, 2), "other": (3, 4), "factors": (1, 2),
    "matrix": ((1, 4), (0, 3)), "vectors": ((1, 4), (2, 3)), "target": (2, 2), "columns": (1,), "value": ("bar", (1, 1)),
    "spaces": (((1, 4),), ((0, 1),)), "first": ((1, 4),), "second": ((0, 1),), "third": (),
    "left": ((1, 2),), "right": ((0, 1), (1, 1)), "another": (1, 1),
}
FAULTS = {
    "modulus": (InvalidModulus, MODULUS), "width": (InvalidNumber, WIDTH), "number": (InvalidNumber, NUMBER),
    "vector": (InvalidVector, VECTOR), "one": (InvalidVector, VECTOR), "other": (InvalidVector, VECTOR_OF_2),
    "another": (InvalidVector, VECTOR_OF_2), "factors": (InvalidVector, VECTOR_OF_2), "target": (InvalidVector, VECTOR_OF_2),
    "matrix": (InvalidMatrix, MATRIX_OF_2), "vectors": (InvalidMatrix, MATRIX_OF_2), "first": (InvalidMatrix, MATRIX_OF_2),
    "second": (InvalidMatrix, MATRIX_OF_2), "third": (InvalidMatrix, MATRIX_OF_2), "right": (InvalidMatrix, MATRIX_OF_2),
    "left": (InvalidMatrix, MATRIX_OF_2), "spaces": (InvalidMatrix, SPACES_OF_2), "columns": (InvalidNumber, COLUMNS_OF_2),
    "vector of width": (InvalidVector, VECTOR_OF_2),
}

# For each function: its parameters by position, and in another order, if it differs, how they are checked.
SPACE = ("modulus", "width", "vectors")
CASES = {
    numbers.inverse: (("modulus", "number"),),
    numbers.added: (("modulus", "vector", "other", "another"),),
    numbers.scaled: (("modulus", "number", "vector"),),
    numbers.dot: (("modulus", "one", "other"),),
    numbers.combination: (("modulus", "width", "vectors", "factors"),),
    numbers.product: (("modulus", "width", "left", "right"), ("modulus", "width", "right", "left")),
    numbers.transposed: (("modulus", "width", "matrix"),),
    spaces.reduced: (SPACE,),
    spaces.contains: (SPACE + ("vector of width",),),
    spaces.solve: (SPACE + ("target",),),
    spaces.is_solution: (SPACE + ("target", "value"), SPACE + ("target",)),
    spaces.sum_of: (("modulus", "width", "first", "second", "third"),),
    spaces.meet_of: (("modulus", "width", "first", "second", "third"),),
    spaces.sum_all: (("modulus", "width", "spaces"),),
    spaces.meet_all: (("modulus", "width", "spaces"),),
    spaces.complement: (SPACE,),
    spaces.projected: (SPACE + ("columns",),),
    spaces.section: (SPACE + ("columns",),),
    spaces.is_column_basis: (SPACE + ("columns",),),
    spaces.column_bases: (SPACE,),
    numbers.is_vector: (("modulus", "value"), ("modulus",)),
    numbers.is_matrix: (("modulus", "width", "value"), ("modulus", "width")),
    spaces.is_reduced: (("modulus", "width", "value"), ("modulus", "width")),
}


def good(name):
    """A right argument for this parameter."""
    return GOOD["vector" if name == "vector of width" else name]


def arguments(names, changed):
    """Right arguments, but for the changed ones."""
    return [changed[name] if name in changed else good(name) for name in names]


class ArgumentTests(unittest.TestCase):
    def judge(self, error, name, wrong, note):
        """The error must be of exactly the class of this parameter, and keep the value itself."""
        kind, _ = FAULTS[name]
        self.assertIs(type(error), kind, note)
        if kind is InvalidNumber:
            self.assertIs(error.value, wrong, note)
        else:
            self.assertIsInstance(error, errors.DriveError)
            self.assertIsInstance(str(error), str)

    def test_right_arguments_raise_nothing(self):
        for function, (names, *_) in CASES.items():
            self.assertIsNone(caught(function, *arguments(names, {})), function)

    def test_one_wrong_argument(self):
        for function, (names, *order) in CASES.items():
            for name in order[0] if order else names:
                for wrong in FAULTS[name][1]:
                    error = caught(function, *arguments(names, {name: wrong}))
                    self.judge(error, name, wrong, (function.__name__, name, wrong))

    def test_the_first_of_two_wrong_arguments(self):
        for function, (names, *order) in CASES.items():
            for early, late in combinations(order[0] if order else names, 2):
                for wrong in FAULTS[early][1]:
                    for further in FAULTS[late][1][::3]:
                        error = caught(function, *arguments(names, {early: wrong, late: further}))
                        self.judge(error, early, wrong, (function.__name__, early, wrong, late, further))

    def test_the_first_of_all_wrong_arguments(self):
        for function, (names, *order) in CASES.items():
            checked = order[0] if order else names
            for at in range(len(checked)):
                changed = {name: FAULTS[name][1][0] for name in checked[at:]}
                error = caught(function, *arguments(names, changed))
                self.judge(error, checked[at], changed[checked[at]], (function.__name__, checked[at]))

    def test_a_wrong_value_is_judged_and_raises_nothing(self):
        values = MODULUS + WIDTH + VECTOR + MATRIX_OF_2 + SPACES_OF_2 + COLUMNS_OF_2
        values += tuple((word, value) for word in ("solution", "bar", "", 0) for value in VECTOR)
        for function, (names, *order) in CASES.items():
            if "value" in names:
                for value in values:
                    result = function(*arguments(names, {"value": value}))
                    self.assertIn(result, (True, False))
                    self.assertIsInstance(result, bool)
        for value in values:
            self.assertIsInstance(numbers.is_modulus(value), bool)

    def test_a_wrong_value_does_not_hide_a_wrong_argument(self):
        for function, (names, *order) in CASES.items():
            if "value" in names:
                for name in order[0]:
                    for wrong in FAULTS[name][1][::2]:
                        error = caught(function, *arguments(names, {name: wrong, "value": [None]}))
                        self.judge(error, name, wrong, (function.__name__, name, wrong))


class SpecialErrorTests(unittest.TestCase):
    def raised(self, kind, function, *some):
        error = caught(function, *some)
        self.assertIs(type(error), kind, (function.__name__, some))
        return error

    def test_inverse_of_zero(self):
        for modulus in (2, 5, 97):
            self.assertEqual(self.raised(InvalidNumber, numbers.inverse, modulus, 0).value, 0)
            self.assertEqual(self.raised(InvalidNumber, numbers.inverse, modulus, modulus).value, modulus)

    def test_numbers_depend_on_the_modulus(self):
        self.assertIsNone(caught(numbers.scaled, 97, 96, (96,)))
        self.assertEqual(self.raised(InvalidNumber, numbers.scaled, 89, 96, (96,)).value, 96)
        self.raised(InvalidVector, numbers.scaled, 89, 88, (96,))
        self.raised(InvalidMatrix, spaces.reduced, 3, 1, ((3,),))

    def test_lengths_of_vectors(self):
        self.raised(InvalidVector, numbers.added, 5, (), (0,))
        self.raised(InvalidVector, numbers.added, 5, (0,), (0,), ())
        self.raised(InvalidVector, numbers.dot, 5, (), (0,))
        self.raised(InvalidVector, numbers.dot, 5, (0, 1, 2), (0, 1))
        self.raised(InvalidVector, numbers.combination, 5, 2, (), (0,))
        self.raised(InvalidVector, numbers.combination, 5, 2, ((1, 1),), ())
        self.raised(InvalidVector, numbers.combination, 5, 1, ((1,), (2,), (3,)), (1,))
        for function in (spaces.contains, spaces.solve):
            self.raised(InvalidVector, function, 5, 0, (), (0,))
            self.raised(InvalidVector, function, 5, 3, (), ())
            self.raised(InvalidVector, function, 5, 100, (), (0,) * 101)

    def test_product_needs_a_matrix_as_wide_as_the_other_has_vectors(self):
        three = ((1,), (2,), (3,))
        self.assertIsNone(caught(numbers.product, 5, 1, ((1, 2, 3),), three))
        self.raised(InvalidMatrix, numbers.product, 5, 1, ((1,),), three)
        self.raised(InvalidMatrix, numbers.product, 5, 1, ((1, 2, 3, 4),), three)
        self.raised(InvalidMatrix, numbers.product, 5, 3, ((1, 2, 3),), ((1, 2, 3),))
        self.raised(InvalidMatrix, numbers.product, 5, 1, ((1,),), ())
        self.raised(InvalidMatrix, numbers.product, 5, 1, ((1, 2, 3),) * 101, three)

    def test_widths(self):
        for width in (0, 100):
            self.assertIsNone(caught(spaces.reduced, 5, width, ((0,) * width,)))
            self.assertIsNone(caught(numbers.transposed, 5, width, ((0,) * width,) * 100))
            self.raised(InvalidMatrix, spaces.reduced, 5, width, ((0,) * width,) * 101)
            self.raised(InvalidMatrix, spaces.reduced, 5, width, ((0,) * (width + 1),))
        for width in (-1, 101, True, False, None, "2", (2,)):
            self.assertIs(self.raised(InvalidNumber, spaces.meet_of, 5, width).value, width)
            self.assertIs(self.raised(InvalidNumber, spaces.sum_of, 5, width).value, width)
            self.assertIs(self.raised(InvalidNumber, numbers.is_matrix, 5, width, ()).value, width)

    def test_without_spaces_the_modulus_is_still_checked(self):
        for function in (spaces.sum_of, spaces.meet_of):
            self.raised(InvalidModulus, function, 4, 2)
            self.raised(InvalidModulus, function, 4, -1)

    def test_a_hundred_spaces(self):
        for function in (spaces.sum_all, spaces.meet_all):
            self.assertIsNone(caught(function, 5, 2, (((0, 1),),) * 100))
            self.raised(InvalidMatrix, function, 5, 2, (((0, 1),),) * 101)
            self.raised(InvalidMatrix, function, 5, 2, (((0, 1),),) * 99 + (((0, 1, 2),),))

    def test_columns_stay_below_the_width(self):
        for function in (spaces.projected, spaces.section, spaces.is_column_basis):
            self.assertIsNone(caught(function, 5, 100, (), tuple(range(100))))
            for width, columns in ((0, (0,)), (1, (1,)), (100, (100,)), (3, (0, 1, 2, 3)), (3, (0, 2, 1)), (3, (2, 2))):
                error = self.raised(InvalidNumber, function, 5, width, (), columns)
                self.assertIs(error.value, columns)

    def test_a_generator_raises_when_its_first_value_is_asked_for(self):
        with self.assertRaises(InvalidModulus):
            for _ in spaces.column_bases(4, -1, None):
                self.fail("a value was yielded")
        with self.assertRaises(InvalidNumber):
            next(spaces.column_bases(5, -1, None))
        with self.assertRaises(InvalidMatrix):
            next(spaces.column_bases(5, 1, None))

    def test_length_of_is_vector(self):
        for length in (-1, 0, 1, 3, 100, 10 ** 30):
            self.assertIs(numbers.is_vector(5, (1, 2), length=length), False)
            with self.assertRaises(InvalidModulus):
                numbers.is_vector(6, (1, 2), length=length)
        self.assertIs(numbers.is_vector(5, (1, 2), length=2), True)

    def test_lists_inside_of_tuples_stay_as_they_are(self):
        inner = [0, 1]
        caught(spaces.reduced, 5, 2, (inner,))
        caught(spaces.is_reduced, 5, 2, (inner,))
        caught(spaces.is_solution, 5, 2, ((1, 2),), (1, 0), ("bar", inner))
        self.assertTrue(same(inner, [0, 1]))

    def test_a_raised_error_does_not_matter_for_later_calls(self):
        before = spaces.solve(5, 2, ((1, 2), (0, 1)), (1, 0))
        self.raised(InvalidVector, spaces.solve, 5, 2, ((1, 2), (0, 1)), (1, 0, 0))
        self.assertEqual(spaces.solve(5, 2, ((1, 2), (0, 1)), (1, 0)), before)


if __name__ == "__main__":
    unittest.main()
