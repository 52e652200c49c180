"""Reduced rows and what is read off them, without checks: the arguments are known to be right.

Rows are reduced as a matrix is, so the first 1 of a row is at its pivot.
"""

from driveends.numbers.arithmetic import inverse_of, multiple


def first_entry(vector):
    """The first position at which the vector, which is not zero, is not 0."""
    return min([at for at, entry in enumerate(vector) if entry != 0])


def cleared(modulus, vector, row):
    """The vector without the multiple of the reduced row that makes it 0 at the pivot."""
    factor = vector[row.index(1)]
    if factor == 0:
        return vector
    return tuple([(entry - factor * taken) % modulus for entry, taken in zip(vector, row)])


def remainder(modulus, rows, vector):
    """What is left of the vector when it is made 0 at all pivots; zero if it is in the span."""
    for row in rows:
        vector = cleared(modulus, vector, row)
    return vector


def with_vector(modulus, rows, vector):
    """The reduced rows with one more vector, which is not zero, but 0 at all their pivots."""
    pivot = first_entry(vector)
    unit = multiple(modulus, inverse_of(modulus, vector[pivot]), vector)
    before = [cleared(modulus, row, unit) for row in rows if row.index(1) < pivot]
    behind = [row for row in rows if row.index(1) > pivot]
    return (*before, unit, *behind)


def reduced_rows(modulus, vectors):
    """The reduced rows of the span."""
    rows = ()
    for vector in vectors:
        # Nothing is outside of the space of all vectors, so there is nothing left to look for.
        if len(rows) == len(vector):
            return rows
        left = remainder(modulus, rows, vector)
        if any(left):
            rows = with_vector(modulus, rows, left)
    return rows


def in_span(modulus, rows, vector):
    """Whether the vector is in the span of the reduced rows."""
    return not any(remainder(modulus, rows, vector))


def vector_of_complement(modulus, width, rows, free):
    """The vector of the complement that is 1 at this position and 0 at all others without a pivot."""
    vector = [0 for _ in range(width)]
    vector[free] = 1
    for row in rows:
        vector[row.index(1)] = -row[free] % modulus
    return tuple(vector)


def complement_rows(modulus, width, rows):
    """The reduced rows of the complement of the span of reduced rows."""
    pivots = [row.index(1) for row in rows]
    free = [at for at in range(width) if at not in pivots]
    return reduced_rows(modulus, [vector_of_complement(modulus, width, rows, at) for at in free])


def sum_rows(modulus, spaces):
    """The reduced rows of the sum of some spaces."""
    return reduced_rows(modulus, [vector for space in spaces for vector in space])


def meet_rows(modulus, width, spaces):
    """The reduced rows of the meet of some spaces."""
    # A vector is in all spaces exactly if it is in the complement of each complement.
    complements = [complement_rows(modulus, width, reduced_rows(modulus, space)) for space in spaces]
    return complement_rows(modulus, width, sum_rows(modulus, complements))


def picked(vector, columns):
    """The entries of the vector at these positions, in this order."""
    return tuple([vector[at] for at in columns])


def projected_rows(modulus, vectors, columns):
    """The reduced rows of the projection of the span."""
    return reduced_rows(modulus, [picked(vector, columns) for vector in vectors])


def section_rows(modulus, width, vectors, columns):
    """The reduced rows of the section of the span."""
    others = [at for at in range(width) if at not in columns]
    rows = projected_rows(modulus, vectors, (*others, *columns))
    # With the other columns in front, the rows that are 0 there are those with later pivots.
    return tuple([row[len(others):] for row in rows if row.index(1) >= len(others)])
