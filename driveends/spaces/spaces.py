"""Spaces of vectors modulo a prime, with checked arguments."""

from driveends.errors import InvalidMatrix, InvalidNumber
from driveends.numbers.arithmetic import columns_of, combined, dot_product
from driveends.numbers.numbers import are_numbers, are_vectors, check_matrix, check_modulus
from driveends.numbers.numbers import check_vector_of, check_width, is_int
from driveends.spaces.elimination import complement_rows, in_span, meet_rows, projected_rows
from driveends.spaces.elimination import reduced_rows, section_rows, sum_rows, with_vector

MAX_SPACES = 100


def check_space(modulus, width, vectors):
    """Raise the first error of a modulus, a width and a matrix that applies."""
    check_spaces(modulus, width, (vectors,))


def check_spaces(modulus, width, spaces):
    """Raise the first error of a modulus, a width and some matrices that applies."""
    check_modulus(modulus)
    check_width(width)
    for space in spaces:
        check_matrix(modulus, width, space)


def check_tuple_of_spaces(modulus, width, spaces):
    """Raise the first error of a modulus, a width and a tuple of matrices that applies."""
    check_modulus(modulus)
    check_width(width)
    if not isinstance(spaces, tuple) or len(spaces) > MAX_SPACES:
        raise InvalidMatrix("spaces are passed as a tuple of at most 100 matrices")
    check_spaces(modulus, width, spaces)


def are_columns(width, value):
    """Whether the value is a tuple of positions in ascending order."""
    if not isinstance(value, tuple) or not all([is_int(at) for at in value]):
        return False
    if not all([0 <= at < width for at in value]):
        return False
    return all([value[k] < value[k + 1] for k in range(len(value) - 1)])


def check_columns(width, columns):
    """Raise InvalidNumber if these are not positions in ascending order."""
    if not are_columns(width, columns):
        raise InvalidNumber(columns)


def reduced(modulus, width, vectors):
    """The reduced matrix of the span."""
    check_space(modulus, width, vectors)
    return reduced_rows(modulus, vectors)


def is_reduced(modulus, width, value):
    """Whether the value is a reduced matrix."""
    check_modulus(modulus)
    check_width(width)
    # Only a reduced matrix is the reduced matrix of its span.
    return are_vectors(modulus, width, value) and reduced_rows(modulus, value) == value


def contains(modulus, width, vectors, vector):
    """Whether the vector is in the span."""
    check_space(modulus, width, vectors)
    check_vector_of(modulus, width, vector)
    return in_span(modulus, reduced_rows(modulus, vectors), vector)


def factors_for(modulus, width, vectors, target):
    """Factors whose combination of the vectors is the target, or None."""
    many = len(vectors)
    # One equation for each position: the factors are unknown, and the target is the last column.
    equations = reduced_rows(modulus, columns_of(width, (*vectors, target)))
    factors = [0 for _ in range(many)]
    for row in equations:
        if row.index(1) == many:
            return None
        factors[row.index(1)] = row[many]
    return tuple(factors)


def bar_against(modulus, width, vectors, target):
    """A vector whose dot product is 0 with each vector, but not with the target outside of their span."""
    candidates = complement_rows(modulus, width, vectors)
    bars = [vector for vector in candidates if dot_product(modulus, vector, target) != 0]
    return bars[0]


def solve(modulus, width, vectors, target):
    """A paper that the target is a combination of the vectors, or that it is none."""
    check_space(modulus, width, vectors)
    check_vector_of(modulus, width, target)
    factors = factors_for(modulus, width, vectors, target)
    if factors is None:
        return ("bar", bar_against(modulus, width, vectors, target))
    return ("solution", factors)


def are_factors(modulus, width, vectors, target, value):
    """Whether the value is a vector of factors whose combination of the vectors is the target."""
    if not are_numbers(modulus, value) or len(value) != len(vectors):
        return False
    return combined(modulus, width, vectors, value) == target


def is_bar_against(modulus, width, vectors, target, value):
    """Whether the value is a vector whose dot product is 0 with each vector, but not with the target."""
    if not are_numbers(modulus, value) or len(value) != width:
        return False
    if dot_product(modulus, value, target) == 0:
        return False
    return all([dot_product(modulus, value, vector) == 0 for vector in vectors])


def is_solution(modulus, width, vectors, target, value):
    """Whether the value is a right paper for solve."""
    check_space(modulus, width, vectors)
    check_vector_of(modulus, width, target)
    if not isinstance(value, tuple) or len(value) != 2:
        return False
    if value[0] == "solution":
        return are_factors(modulus, width, vectors, target, value[1])
    return value[0] == "bar" and is_bar_against(modulus, width, vectors, target, value[1])


def sum_of(modulus, width, *spaces):
    """The span of all vectors of the spaces."""
    check_spaces(modulus, width, spaces)
    return sum_rows(modulus, spaces)


def sum_all(modulus, width, spaces):
    """The span of all vectors of the spaces of a tuple."""
    check_tuple_of_spaces(modulus, width, spaces)
    return sum_rows(modulus, spaces)


def meet_of(modulus, width, *spaces):
    """The space of the vectors that are in all of the spaces."""
    check_spaces(modulus, width, spaces)
    return meet_rows(modulus, width, spaces)


def meet_all(modulus, width, spaces):
    """The space of the vectors that are in all spaces of a tuple."""
    check_tuple_of_spaces(modulus, width, spaces)
    return meet_rows(modulus, width, spaces)


def complement(modulus, width, vectors):
    """The space of the vectors whose dot product with each vector is 0."""
    check_space(modulus, width, vectors)
    return complement_rows(modulus, width, vectors)


def projected(modulus, width, vectors, columns):
    """The projection of the span to the columns."""
    check_space(modulus, width, vectors)
    check_columns(width, columns)
    return projected_rows(modulus, vectors, columns)


def section(modulus, width, vectors, columns):
    """The section of the span at the columns."""
    check_space(modulus, width, vectors)
    check_columns(width, columns)
    return section_rows(modulus, width, vectors, columns)


def is_column_basis(modulus, width, vectors, columns):
    """Whether the columns are a column basis of the span."""
    check_space(modulus, width, vectors)
    check_columns(width, columns)
    rows = reduced_rows(modulus, vectors)
    return len(rows) == len(columns) == len(projected_rows(modulus, rows, columns))


def column_bases(modulus, width, vectors):
    """Yield all column bases of the span in ascending order."""
    check_space(modulus, width, vectors)
    # Each entry: the columns taken so far, the next column, and the reduced rows that are still
    # to be covered, from that column on. Every entry leads to a basis, so none is searched in vain.
    waiting = [((), 0, reduced_rows(modulus, vectors))]
    while waiting:
        chosen, start, rows = waiting.pop()
        if not rows:
            yield chosen
            continue
        column = start + rows[0].index(1)
        first, *others = [row[column + 1 - start:] for row in rows]
        # The column can be left out only if the later ones can still cover the first row.
        if any(first):
            waiting.append((chosen, column + 1, with_vector(modulus, others, first)))
        waiting.append(((*chosen, column), column + 1, tuple(others)))
