"""[2.1] to [2.4]: driveends.spaces.spaces, results."""

import time
import unittest
from itertools import combinations, islice, permutations
from itertools import product as choices

from driveends.numbers.numbers import combination, dot, product, transposed
from driveends.spaces.spaces import (
    column_bases, complement, contains, is_column_basis, is_reduced, is_solution, meet_all, meet_of, projected, reduced,
    section, solve, sum_all, sum_of,
)
from tests.helper import (
    all_columns, all_matrices, all_vectors, dimension, is_reduced_by_words, nested, pick, scrambled, span, times, unit,
)

# (modulus, width, most vectors): every matrix of these sizes is tried.
SMALL = ((2, 0, 2), (2, 1, 2), (2, 2, 3), (2, 3, 3), (3, 1, 2), (3, 2, 2), (3, 3, 2), (5, 2, 2), (7, 1, 2))
NO_MATRICES = (
    None, True, 0, 1, "a", (1,), (None,), ("a",), [], [()], {}, ((1, 0), None), ([1, 0],), [(1, 0)], ((True, 0),),
    ((1, 0), (0, 1), 1), ((1, None),), nested(9, 1),
)


def spaces_of(modulus, width):
    """A dict from each space, as the set of its vectors, to its reduced matrix, found by trying."""
    found = {frozenset(((0,) * width,)): ()}
    units = tuple(unit(width, at) for at in range(width))
    for matrix in all_matrices(modulus, width, min(width, 2)) + [units]:
        if is_reduced_by_words(matrix):
            found[span(modulus, width, matrix)] = matrix
    if width == 3:
        # Planes of width 3 have two vectors, lines one: no other dimensions are left.
        assert len(found) == 2 + 2 * (modulus ** 2 + modulus + 1)
    return found


class ExampleTests(unittest.TestCase):
    def test_reduced(self):
        found = [reduced(5, 3, ((0, 2, 4), (1, 1, 1), (1, 3, 0))), contains(5, 2, ((1, 2),), (3, 1))]
        self.assertEqual(found, [((1, 0, 4), (0, 1, 2)), True])

    def test_solve(self):
        found = [solve(5, 2, ((1, 2), (0, 1)), (1, 0)), is_solution(5, 2, ((1, 2),), (1, 0), ("bar", (3, 1)))]
        self.assertEqual(found, [("solution", (1, 3)), True])

    def test_sums_and_meets(self):
        found = [sum_of(5, 2, ((1, 2),), ((2, 4),)), meet_of(5, 2, ((1, 2),), ((0, 1),)), meet_of(5, 2)]
        self.assertEqual(found, [((1, 2),), (), ((1, 0), (0, 1))])

    def test_complement_projection_section(self):
        found = [
            complement(5, 3, ((1, 0, 4),)), projected(5, 3, ((1, 0, 4),), (0, 1)), section(5, 3, ((1, 0, 4),), (0, 2)),
        ]
        self.assertEqual(found, [((1, 0, 1), (0, 1, 0)), ((1, 0),), ((1, 4),)])

    def test_column_bases(self):
        self.assertEqual(list(column_bases(5, 3, ((1, 0, 4), (0, 1, 0)))), [(0, 1), (1, 2)])


class ReducedTests(unittest.TestCase):
    def test_one_reduced_matrix_for_each_span(self):
        for modulus, width, most in SMALL:
            expected = spaces_of(modulus, width)
            for matrix in all_matrices(modulus, width, most):
                vectors = span(modulus, width, matrix)
                found = reduced(modulus, width, matrix)
                self.assertTrue(is_reduced_by_words(found))
                self.assertEqual(found, expected[vectors], matrix)
                self.assertEqual(len(found), dimension(modulus, vectors))

    def test_is_reduced_for_all_matrices(self):
        for modulus, width, most in SMALL:
            for matrix in all_matrices(modulus, width, most):
                self.assertIs(is_reduced(modulus, width, matrix), is_reduced_by_words(matrix), matrix)

    def test_is_reduced_for_other_values(self):
        for value in NO_MATRICES + (((1, 0, 0),), ((1, 5),), ((1, -1),)):
            self.assertIs(is_reduced(5, 2, value), False, value)
        units = tuple(unit(100, at) for at in range(100))
        self.assertIs(is_reduced(97, 100, units), True)
        self.assertIs(is_reduced(97, 100, units + units[:1]), False)
        self.assertIs(is_reduced(97, 100, units[:50]), True)
        self.assertIs(is_reduced(97, 100, units[::-1]), False)
        self.assertIs(is_reduced(2, 0, ()), True)
        self.assertIs(is_reduced(2, 0, ((),)), False)

    def test_contains(self):
        for modulus, width, most in SMALL:
            for matrix in all_matrices(modulus, width, most):
                inside = span(modulus, width, matrix)
                for vector in all_vectors(modulus, width):
                    self.assertIs(contains(modulus, width, matrix, vector), vector in inside)

    def test_order_and_repetition_do_not_matter(self):
        matrix = scrambled(7, 5, 3)
        expected = reduced(7, 5, matrix)
        self.assertEqual(len(expected), 3)
        for order in permutations(matrix):
            self.assertEqual(reduced(7, 5, order), expected)
            self.assertEqual(reduced(7, 5, order + order + ((0,) * 5,)), expected)
        self.assertEqual(reduced(7, 5, expected), expected)

    def test_width_100(self):
        matrix = scrambled(97, 100, 60)
        found = reduced(97, 100, matrix + matrix[:40])
        self.assertTrue(is_reduced_by_words(found))
        self.assertEqual(len(found), 60)
        self.assertIs(is_reduced(97, 100, found), True)
        self.assertIs(is_reduced(97, 100, matrix), False)
        self.assertEqual(reduced(97, 100, scrambled(97, 100, 100)), tuple(unit(100, at) for at in range(100)))
        inside = combination(97, 100, matrix, scrambled(97, 60, 1, seed=5)[0])
        self.assertIs(contains(97, 100, matrix, inside), True)
        self.assertIs(contains(97, 100, matrix, inside[:99] + ((inside[99] + 1) % 97,)), False)


class SolveTests(unittest.TestCase):
    def papers_of(self, modulus, width, vectors, target):
        """All right papers, by trying all vectors."""
        right = [
            ("solution", factors) for factors in all_vectors(modulus, len(vectors))
            if combination(modulus, width, vectors, factors) == target
        ]
        return right + [
            ("bar", bar) for bar in all_vectors(modulus, width)
            if times(modulus, bar, target) and not any(times(modulus, bar, vector) for vector in vectors)
        ]

    def test_all_papers(self):
        for modulus, width, most in ((2, 0, 2), (2, 1, 2), (2, 2, 3), (2, 3, 2), (3, 1, 2), (3, 2, 2), (5, 1, 2)):
            for vectors in all_matrices(modulus, width, most):
                for target in all_vectors(modulus, width):
                    right = self.papers_of(modulus, width, vectors, target)
                    self.assertEqual(len({word for word, _ in right}), 1)
                    self.assertIn(solve(modulus, width, vectors, target), right)
                    lengths = sorted({0, 1, width, len(vectors), width + 1})
                    for length in lengths:
                        for vector in all_vectors(modulus, length):
                            for word in ("solution", "bar"):
                                judged = is_solution(modulus, width, vectors, target, (word, vector))
                                self.assertIs(judged, (word, vector) in right)

    def test_other_values(self):
        vectors, target = ((1, 2), (0, 1)), (1, 0)
        self.assertIs(is_solution(5, 2, vectors, target, ("solution", (1, 3))), True)
        wrong = NO_MATRICES + (
            (), ("solution",), ("bar",), ("solution", (1, 3), 0), ["solution", (1, 3)], ("Solution", (1, 3)),
            ("solution", [1, 3]), ("solution", (1, 8)), ("solution", (1, -2)), ("solution", (True, 3)),
            ("solution", (1, 3, 0)), ("solution", ((1, 3),)), ("solution", None), (0, (1, 3)), (None, (1, 3)),
            (("solution",), (1, 3)), "solution", (1, 3), {"solution": (1, 3)}, ("bar", (1, 3)), ((1, 3), "solution"),
        )
        for value in wrong:
            self.assertIs(is_solution(5, 2, vectors, target, value), False, value)

    def test_other_values_for_bars(self):
        vectors, target = ((1, 2),), (1, 0)
        for number in range(1, 5):
            self.assertIs(is_solution(5, 2, vectors, target, ("bar", (3 * number % 5, number))), True)
        wrong = NO_MATRICES + (
            ("bar", (0, 0)), ("bar", (1, 0)), ("bar", (3,)), ("bar", (3, 1, 0)), ("bar", [3, 1]), ("bar", (3, 6)),
            ("bar", (3, True)), ("bar", (-2, 1)), ("bar", None), ("bar", ()), ("bar",), ("bar", (3, 1), 1),
            ["bar", (3, 1)], ("bar", ((3, 1),)), ("solution", (3, 1)), ("solution", (1,)), (True, (3, 1)),
        )
        for value in wrong:
            self.assertIs(is_solution(5, 2, vectors, target, value), False, value)

    def test_width_100(self):
        vectors = scrambled(97, 100, 60)
        factors = scrambled(97, 60, 1, seed=5)[0]
        target = combination(97, 100, vectors, factors)
        self.assertEqual(solve(97, 100, vectors, target), ("solution", factors))
        target = scrambled(97, 100, 1, seed=9)[0]
        word, bar = solve(97, 100, vectors, target)
        self.assertEqual((word, [dot(97, bar, vector) for vector in vectors]), ("bar", [0] * 60))
        self.assertNotEqual(dot(97, bar, target), 0)
        self.assertIs(is_solution(97, 100, vectors, target, (word, bar)), True)
        vectors = scrambled(97, 100, 100)
        word, factors = solve(97, 100, vectors, target)
        self.assertEqual((word, combination(97, 100, vectors, factors)), ("solution", target))
        self.assertIs(is_solution(97, 100, vectors, target, (word, factors)), True)

    def test_without_vectors_or_entries(self):
        self.assertEqual(solve(5, 2, (), (0, 0)), ("solution", ()))
        self.assertEqual(solve(5, 1, (), (2,))[0], "bar")
        self.assertEqual(solve(5, 0, (), ()), ("solution", ()))
        word, factors = solve(5, 0, ((), ()), ())
        self.assertEqual((word, len(factors)), ("solution", 2))


class SpaceTests(unittest.TestCase):
    def test_sum_and_meet_of_two(self):
        for modulus, width in ((2, 0), (2, 1), (2, 2), (2, 3), (3, 2), (5, 2)):
            known = spaces_of(modulus, width)
            for one, first in known.items():
                for other, second in known.items():
                    joined = known[span(modulus, width, first + second)]
                    self.assertEqual(sum_of(modulus, width, first, second), joined)
                    self.assertEqual(sum_all(modulus, width, (first, second)), joined)
                    common = known[one & other]
                    self.assertEqual(meet_of(modulus, width, first, second), common)
                    self.assertEqual(meet_all(modulus, width, (first, second)), common)

    def test_sum_and_meet_of_three(self):
        known = spaces_of(2, 3)
        for (one, first), (other, second), (last, third) in choices(known.items(), repeat=3):
            self.assertEqual(sum_of(2, 3, first, second, third), known[span(2, 3, reduced(2, 3, first + second) + third)])
            self.assertEqual(meet_all(2, 3, (first, second, third)), known[one & other & last])

    def test_any_matrix_passes_a_space(self):
        known = spaces_of(3, 2)
        for matrix in all_matrices(3, 2, 2):
            space = known[span(3, 2, matrix)]
            self.assertEqual(sum_of(3, 2, matrix), space)
            self.assertEqual(meet_of(3, 2, matrix), space)
            self.assertEqual(sum_all(3, 2, (matrix,)), space)
            self.assertEqual(meet_all(3, 2, (matrix,)), space)

    def test_without_spaces(self):
        for width in (0, 1, 3, 100):
            whole = tuple(unit(width, at) for at in range(width))
            self.assertEqual([sum_of(5, width), sum_all(5, width, ())], [(), ()])
            self.assertEqual([meet_of(5, width), meet_all(5, width, ())], [whole, whole])

    def test_a_hundred_spaces(self):
        lines = tuple((unit(100, at),) for at in range(100))
        whole = tuple(unit(100, at) for at in range(100))
        self.assertEqual(sum_all(5, 100, lines), whole)
        self.assertEqual(sum_all(5, 100, lines[:99]), whole[:99])
        planes = tuple(complement(5, 100, line) for line in lines)
        self.assertEqual(meet_all(5, 100, planes), ())
        self.assertEqual(meet_all(5, 100, planes[:99]), whole[99:])
        # Only the variants with a tuple have a limit.
        self.assertEqual(sum_of(5, 100, *lines, *lines), whole)
        self.assertEqual(meet_of(5, 100, *planes, *planes), ())

    def test_complement(self):
        for modulus, width, most in SMALL:
            known = spaces_of(modulus, width)
            for matrix in all_matrices(modulus, width, most):
                against = frozenset(
                    vector for vector in all_vectors(modulus, width)
                    if not any(times(modulus, vector, row) for row in matrix)
                )
                found = complement(modulus, width, matrix)
                self.assertEqual(found, known[against])
                self.assertEqual(len(found) + len(reduced(modulus, width, matrix)), width)
                self.assertEqual(complement(modulus, width, found), reduced(modulus, width, matrix))

    def test_projection_and_section(self):
        for modulus, width, most in SMALL:
            known = {many: spaces_of(modulus, many) for many in range(width + 1)}
            for matrix in all_matrices(modulus, width, most):
                vectors = span(modulus, width, matrix)
                for columns in all_columns(width):
                    others = [at for at in range(width) if at not in columns]
                    shadow = frozenset(pick(vector, columns) for vector in vectors)
                    cut = frozenset(pick(vector, columns) for vector in vectors if not any(pick(vector, others)))
                    self.assertEqual(projected(modulus, width, matrix, columns), known[len(columns)][shadow])
                    self.assertEqual(section(modulus, width, matrix, columns), known[len(columns)][cut])

    def test_complement_of_a_projection(self):
        for modulus, width, many in ((2, 5, 3), (3, 4, 2), (97, 6, 3), (5, 4, 0)):
            matrix = scrambled(modulus, width, many)
            for columns in all_columns(width):
                shadow = projected(modulus, width, matrix, columns)
                cut = section(modulus, width, complement(modulus, width, matrix), columns)
                self.assertEqual(complement(modulus, len(columns), shadow), cut)

    def test_width_100(self):
        matrix = scrambled(97, 100, 60)
        space = reduced(97, 100, matrix)
        against = complement(97, 100, matrix)
        self.assertEqual(len(against), 40)
        self.assertEqual(set(sum(product(97, 40, matrix, transposed(97, 100, against)), ())), {0})
        self.assertEqual(complement(97, 100, against), space)
        columns = tuple(range(0, 100, 2))
        self.assertEqual(len(projected(97, 100, matrix, columns)), 50)
        cut = section(97, 100, matrix, columns)
        self.assertEqual(len(cut), 10)
        for vector in cut:
            spread = [0] * 100
            spread[::2] = vector
            self.assertTrue(contains(97, 100, matrix, tuple(spread)))
        self.assertEqual(projected(97, 100, matrix, tuple(range(100))), space)
        self.assertEqual(section(97, 100, matrix, tuple(range(100))), space)
        self.assertEqual([projected(97, 100, matrix, ()), section(97, 100, matrix, ())], [(), ()])
        other = scrambled(97, 100, 60, seed=2)
        self.assertEqual(len(meet_of(97, 100, matrix, other)), 20)
        self.assertEqual(len(sum_of(97, 100, matrix[:30], other[:30])), 60)


class LargerTests(unittest.TestCase):
    """Sizes at which the vectors cannot be counted: what holds of dimensions and of common vectors."""

    SIZES = ((2, 30, 9, 4), (7, 24, 6, 5), (97, 40, 11, 4), (97, 40, 15, 0), (97, 40, 3, 17), (5, 20, 10, 6), (3, 12, 8, 8), (97, 60, 40, 12))

    def test_complements(self):
        for modulus, width, many, more in self.SIZES:
            vectors = scrambled(modulus, width, many, seed=many + 7)
            vectors += vectors[:2] + scrambled(modulus, width, more, seed=3)
            found = complement(modulus, width, vectors)
            self.assertTrue(is_reduced(modulus, width, found))
            self.assertEqual(len(found), width - len(reduced(modulus, width, vectors)))
            self.assertTrue(all(dot(modulus, one, other) == 0 for one in found for other in vectors))
            self.assertEqual(complement(modulus, width, found), reduced(modulus, width, vectors))

    def test_meets(self):
        for modulus, width, many, more in self.SIZES:
            common = scrambled(modulus, width, more, seed=11)
            one = common + scrambled(modulus, width, many, seed=12)
            other = scrambled(modulus, width, many, seed=13) + common
            found = meet_of(modulus, width, one, other)
            self.assertTrue(is_reduced(modulus, width, found))
            self.assertTrue(all(contains(modulus, width, found, vector) for vector in common))
            self.assertTrue(all(contains(modulus, width, one, row) and contains(modulus, width, other, row) for row in found))
            both = len(reduced(modulus, width, one)) + len(reduced(modulus, width, other))
            self.assertEqual(len(found), both - len(sum_of(modulus, width, one, other)))
            complements = [complement(modulus, width, space) for space in (one, other)]
            self.assertEqual(found, complement(modulus, width, sum_of(modulus, width, *complements)))
            self.assertEqual(meet_of(modulus, width, other, one, one), found)
            three = meet_of(modulus, width, one, common, other)
            self.assertEqual(three, reduced(modulus, width, common))
            self.assertEqual(meet_all(modulus, width, (one, other, (), one)), ())

    def test_the_inputs_that_took_long(self):
        one = tuple(tuple(((i * 40 + j + 3) ** 5 + i * j * j + i ** 7 * j ** 3) % 97 for j in range(40)) for i in range(15))
        other = tuple(tuple(((i * 40 + j + 7) ** 7 + i * i * j + i ** 5 * j ** 6) % 97 for j in range(40)) for i in range(15))
        start = time.perf_counter()
        for _ in range(20):
            found = complement(97, 40, one), complement(97, 40, other), meet_of(97, 40, one, other)
        # Long before it took more than 0.2 seconds on a fast machine; a slow one has time enough.
        self.assertLess(time.perf_counter() - start, 2)
        self.assertEqual([len(space) for space in found[:2]], [40 - len(reduced(97, 40, space)) for space in (one, other)])
        self.assertEqual(found[2], complement(97, 40, sum_of(97, 40, *found[:2])))


class ColumnBasisTests(unittest.TestCase):
    def by_words(self, modulus, width, matrix):
        """All column bases by the definition, in ascending order."""
        vectors = span(modulus, width, matrix)
        many = dimension(modulus, vectors)
        return [
            columns for columns in all_columns(width)
            if len(columns) == many and len({pick(vector, columns) for vector in vectors}) == len(vectors)
        ]

    def test_all_sets_of_columns(self):
        for modulus, width, most in SMALL + ((2, 4, 2),):
            for matrix in all_matrices(modulus, width, most):
                bases = self.by_words(modulus, width, matrix)
                self.assertEqual(list(column_bases(modulus, width, matrix)), bases, matrix)
                for columns in all_columns(width):
                    judged = is_column_basis(modulus, width, matrix, columns)
                    self.assertIs(judged, columns in bases)

    def test_greater_widths(self):
        for modulus, width, many in ((2, 7, 4), (2, 8, 3), (3, 6, 3), (5, 5, 2), (2, 6, 0), (2, 9, 5)):
            matrix = scrambled(modulus, width, many, seed=4)
            bases = self.by_words(modulus, width, matrix)
            self.assertEqual(list(column_bases(modulus, width, matrix)), bases)
            self.assertEqual(list(column_bases(modulus, width, matrix)), bases)

    def test_exchange(self):
        for modulus, width, many, seed in ((2, 6, 3, 4), (3, 6, 3, 1), (2, 7, 4, 3)):
            bases = list(column_bases(modulus, width, scrambled(modulus, width, many, seed=seed)))
            self.assertGreater(len(bases), 5)
            for one in bases:
                for other in bases:
                    for column in set(one) - set(other):
                        rest = set(one) - {column}
                        self.assertTrue(any(tuple(sorted(rest | {at})) in bases for at in set(other) - rest))

    def test_very_many(self):
        matrix = scrambled(97, 100, 50)
        first = list(islice(column_bases(97, 100, matrix), 200))
        expected = [tuple(range(48)) + pair for pair in islice(combinations(range(48, 100), 2), 300)]
        expected = [columns for columns in expected if is_column_basis(97, 100, matrix, columns)]
        self.assertEqual(first, expected[:200])
        self.assertEqual(list(islice(column_bases(97, 100, matrix), 200)), first)

    def test_very_many_with_few_places_to_leave_out(self):
        # The last 30 columns are needed, so only the first 70 leave a choice.
        matrix = ((1,) * 70 + (0,) * 30,) + tuple(unit(100, at) for at in range(70, 100))
        bases = list(column_bases(2, 100, matrix))
        self.assertEqual(bases, [(at,) + tuple(range(70, 100)) for at in range(70)])

    def test_edges(self):
        self.assertEqual(list(column_bases(5, 0, ())), [()])
        self.assertEqual(list(column_bases(5, 3, ())), [()])
        self.assertEqual(list(column_bases(5, 3, ((0, 0, 0),))), [()])
        whole = tuple(unit(100, at) for at in range(100))
        self.assertEqual(list(column_bases(5, 100, whole)), [tuple(range(100))])
        self.assertEqual(list(column_bases(5, 100, ((0,) * 99 + (3,),))), [(99,)])
        self.assertIs(is_column_basis(5, 3, (), ()), True)
        self.assertIs(is_column_basis(5, 3, ((1, 0, 0),), ()), False)
        self.assertIs(is_column_basis(5, 100, whole, tuple(range(100))), True)
        self.assertIs(is_column_basis(5, 100, whole, tuple(range(99))), False)

    def test_two_loops_at_once(self):
        matrix = scrambled(7, 6, 3)
        expected = list(column_bases(7, 6, matrix))
        self.assertEqual(list(zip(column_bases(7, 6, matrix), column_bases(7, 6, matrix))), list(zip(expected, expected)))


if __name__ == "__main__":
    unittest.main()
