"""Numbers, vectors and matrices modulo a prime, with checked arguments."""

from driveends.errors import InvalidMatrix, InvalidModulus, InvalidNumber, InvalidVector
from driveends.numbers.arithmetic import columns_of, combined, dot_product, inverse_of, multiple

MAX_MODULUS = 97
MAX_WIDTH = 100
MAX_VECTORS = 100


def is_int(value):
    """Whether the value is an integer; True and False are none."""
    return isinstance(value, int) and not isinstance(value, bool)


def is_modulus(value):
    """Whether the value is a prime from 2 to 97."""
    if not is_int(value) or value < 2 or value > MAX_MODULUS:
        return False
    # A number up to 97 that is not a prime is divisible by one of these.
    return all([value == divisor or value % divisor != 0 for divisor in (2, 3, 5, 7)])


def is_number(modulus, value):
    """Whether the value is a number for a modulus that is known to be one."""
    return is_int(value) and 0 <= value < modulus


def are_numbers(modulus, value):
    """Whether the value is a vector for a modulus that is known to be one."""
    return isinstance(value, tuple) and all([is_number(modulus, entry) for entry in value])


def are_vectors(modulus, width, value):
    """Whether the value is a matrix, for a modulus and a width that are known to be right."""
    if not isinstance(value, tuple) or len(value) > MAX_VECTORS:
        return False
    return all([are_numbers(modulus, vector) and len(vector) == width for vector in value])


def are_rows(modulus, many, width, value):
    """Whether the value is a tuple of exactly so many vectors of this length, for a modulus that is known to be one."""
    if not isinstance(value, tuple) or len(value) != many:
        return False
    return all([are_numbers(modulus, vector) and len(vector) == width for vector in value])


def check_modulus(modulus):
    """Raise InvalidModulus if this is not a modulus."""
    if not is_modulus(modulus):
        raise InvalidModulus("a modulus is a prime from 2 to 97")


def check_number(modulus, number):
    """Raise InvalidNumber if this is not a number."""
    if not is_number(modulus, number):
        raise InvalidNumber(number)


def check_width(width):
    """Raise InvalidNumber if this is not a width."""
    if not is_int(width) or width < 0 or width > MAX_WIDTH:
        raise InvalidNumber(width)


def check_vector(modulus, vector):
    """Raise InvalidVector if this is not a vector."""
    if not are_numbers(modulus, vector):
        raise InvalidVector("a vector is a tuple of numbers from 0 to modulus - 1")


def check_vector_of(modulus, length, vector):
    """Raise InvalidVector if this is not a vector of this length."""
    check_vector(modulus, vector)
    if len(vector) != length:
        raise InvalidVector(f"the vector should have {length} numbers, not {len(vector)}")


def check_matrix(modulus, width, matrix):
    """Raise InvalidMatrix if this is not a matrix of the width."""
    if not are_vectors(modulus, width, matrix):
        raise InvalidMatrix(f"a matrix is a tuple of at most 100 vectors, here of length {width}")


def is_vector(modulus, value, *, length=None):
    """Whether the value is a vector, of this length if it is an integer."""
    check_modulus(modulus)
    if not are_numbers(modulus, value):
        return False
    return not is_int(length) or len(value) == length


def is_matrix(modulus, width, value):
    """Whether the value is a matrix of the width."""
    check_modulus(modulus)
    check_width(width)
    return are_vectors(modulus, width, value)


def inverse(modulus, number):
    """The number whose product with this one is 1."""
    check_modulus(modulus)
    check_number(modulus, number)
    if number == 0:
        raise InvalidNumber(number)
    return inverse_of(modulus, number)


def added(modulus, vector, *others):
    """The sum of one or more vectors of one length."""
    check_modulus(modulus)
    check_vector(modulus, vector)
    for other in others:
        check_vector_of(modulus, len(vector), other)
    columns = columns_of(len(vector), (vector, *others))
    return tuple([sum(column) % modulus for column in columns])


def scaled(modulus, number, vector):
    """The vector with all entries multiplied by the number."""
    check_modulus(modulus)
    check_number(modulus, number)
    check_vector(modulus, vector)
    return multiple(modulus, number, vector)


def dot(modulus, one, other):
    """The dot product of two vectors of one length."""
    check_modulus(modulus)
    check_vector(modulus, one)
    check_vector_of(modulus, len(one), other)
    return dot_product(modulus, one, other)


def combination(modulus, width, vectors, factors):
    """The sum of factor times vector, a vector of the width also without vectors."""
    check_modulus(modulus)
    check_width(width)
    check_matrix(modulus, width, vectors)
    check_vector_of(modulus, len(vectors), factors)
    return combined(modulus, width, vectors, factors)


def product(modulus, width, one, other):
    """For each vector of one, the combination of the vectors of other with its entries."""
    check_modulus(modulus)
    check_width(width)
    check_matrix(modulus, width, other)
    check_matrix(modulus, len(other), one)
    columns = columns_of(width, other)
    return tuple([tuple([dot_product(modulus, row, column) for column in columns]) for row in one])


def transposed(modulus, width, matrix):
    """The matrix whose vectors are the columns of this one."""
    check_modulus(modulus)
    check_width(width)
    check_matrix(modulus, width, matrix)
    return columns_of(width, matrix)
