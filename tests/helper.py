"""What several test files need. It computes by the words of the document and uses nothing of the package."""

import copy
from itertools import product


def all_vectors(modulus, width):
    """All vectors of this width, ascending."""
    return list(product(range(modulus), repeat=width))


def all_matrices(modulus, width, most):
    """All matrices of this width with at most so many vectors."""
    vectors = all_vectors(modulus, width)
    return [matrix for many in range(most + 1) for matrix in product(vectors, repeat=many)]


def all_columns(width):
    """All ascending tuples of positions, in ascending order."""
    subsets = [tuple(at for at in range(width) if mask >> at & 1) for mask in range(2 ** width)]
    return sorted(subsets)


def times(modulus, one, other):
    """The dot product."""
    return sum(one[at] * other[at] for at in range(len(one))) % modulus


def combine(modulus, width, vectors, factors):
    """The combination, entry by entry."""
    return tuple(sum(factors[k] * vectors[k][at] for k in range(len(vectors))) % modulus for at in range(width))


def span(modulus, width, vectors):
    """The set of all combinations."""
    factors = product(range(modulus), repeat=len(vectors))
    return frozenset(combine(modulus, width, vectors, some) for some in factors)


def is_reduced_by_words(matrix):
    """The definition of a reduced matrix, word by word, for a value that is a matrix."""
    pivots = []
    for vector in matrix:
        places = [at for at, entry in enumerate(vector) if entry]
        if not places or vector[places[0]] != 1:
            return False
        pivots.append(places[0])
    if pivots != sorted(set(pivots)):
        return False
    return all(matrix[k][pivots[j]] == 0 for j in range(len(pivots)) for k in range(len(matrix)) if k != j)


def dimension(modulus, vectors):
    """The dimension of a space that is given by the set of all its vectors."""
    many, size = 0, 1
    while size < len(vectors):
        many, size = many + 1, size * modulus
    return many


def pick(vector, columns):
    """The entries at these positions."""
    return tuple(vector[at] for at in columns)


def scrambled(modulus, width, many, seed=1):
    """A matrix without a plain pattern, the same one in every call."""
    rows, state = [], seed
    for _ in range(many):
        row = []
        for _ in range(width):
            state = (state * 1103515245 + 12345) % 2147483648
            row.append((state >> 16) % modulus)
        rows.append(tuple(row))
    return tuple(rows)


def unit(width, at):
    """The vector that is 1 at one position."""
    return tuple(int(k == at) for k in range(width))


def caught(function, *arguments, **keywords):
    """The error that the call raises, or None. Arguments must not be changed by it."""
    before = copy.deepcopy(arguments)
    try:
        result = function(*arguments, **keywords)
        if hasattr(result, "__next__"):
            list(result)
    except Exception as error:  # the class is judged by the test
        found = error
    else:
        found = None
    if not same(before, arguments):
        raise AssertionError(f"{function.__name__} changed an argument")
    return found


def same(one, other):
    """Equality that tells True from 1, and compares other objects only by their classes."""
    if type(one) is not type(other):
        return False
    if isinstance(one, (tuple, list)):
        return len(one) == len(other) and all(same(a, b) for a, b in zip(one, other))
    if isinstance(one, dict):
        return same(list(one.items()), list(other.items()))
    if isinstance(one, (int, str)) or one is None:
        return one == other
    return True


def nested(depth, core):
    """The value in so many tuples."""
    for _ in range(depth):
        core = (core,)
    return core
