"""Reduced rows and what is read off them, without checks: the arguments are known to be right.

Rows are reduced as a matrix is, so the first 1 of a row is at its pivot.
"""

from driveends.numbers.arithmetic import inverse_of, multiple


def first_entry(vector):
    """The first position at which the vector, which is not zero, is not 0."""
    at = 0
    while vector[at] == 0:
        at += 1
    return at


def without_multiple(modulus, vector, factor, row):
    """The vector less the factor times the row, as a list."""
    return [(entry - factor * taken) % modulus for entry, taken in zip(vector, row)]


def cleared(modulus, vector, row):
    """The vector without the multiple of the reduced row that makes it 0 at the pivot."""
    factor = vector[row.index(1)]
    if factor == 0:
        return vector
    return tuple(without_multiple(modulus, vector, factor, row))


def remainder(modulus, rows, vector):
    """What is left of the vector when it is made 0 at all pivots; zero if it is in the span."""
    for row in rows:
        vector = cleared(modulus, vector, row)
    return vector


def with_vector(modulus, rows, vector):
    """The reduced rows with one more vector, which is not zero, but 0 at all their pivots."""
    pivot = first_entry(vector)
    unit = multiple(modulus, inverse_of(modulus, vector[pivot]), vector)
    before = [cleared(modulus, row, unit) for row in rows if row.index(1) < pivot]
    behind = [row for row in rows if row.index(1) > pivot]
    return (*before, unit, *behind)


def reduced_rows(modulus, vectors):
    """The reduced rows of the span."""
    # The rows are sorted only at the end; until then each one keeps the place at which it was found.
    rows = []
    pivots = []
    for vector in vectors:
        # Nothing is outside of the space of all vectors, so there is nothing left to look for.
        if len(rows) == len(vector):
            break
        for pivot, row in zip(pivots, rows):
            if vector[pivot] != 0:
                vector = without_multiple(modulus, vector, vector[pivot], row)
        if any(vector):
            new = first_entry(vector)
            unit = multiple(modulus, inverse_of(modulus, vector[new]), vector)
            rows = [without_multiple(modulus, row, row[new], unit) if row[new] != 0 else row for row in rows]
            rows.append(unit)
            pivots.append(new)
    order = sorted(list(zip(pivots, range(len(rows)))))
    return tuple([tuple(rows[at]) for _, at in order])


def in_span(modulus, rows, vector):
    """Whether the vector is in the span of the reduced rows."""
    return not any(remainder(modulus, rows, vector))


def complement_rows(modulus, width, vectors):
    """The reduced rows of the complement of the span."""
    # With the columns in the opposite order, each row is 0 behind its pivot when read forwards. So the
    # vectors that are 1 at one column without a pivot, and 0 at the other such columns, are reduced.
    rows = reduced_rows(modulus, [vector[::-1] for vector in vectors])
    last = width - 1
    pivots = [last - row.index(1) for row in rows]
    found = []
    for free in range(width):
        if free not in pivots:
            vector = [0 for _ in range(width)]
            vector[free] = 1
            for pivot, row in zip(pivots, rows):
                vector[pivot] = -row[last - free] % modulus
            found.append(tuple(vector))
    return tuple(found)


def sum_rows(modulus, spaces):
    """The reduced rows of the sum of some spaces."""
    return reduced_rows(modulus, [vector for space in spaces for vector in space])


def meet_rows(modulus, width, spaces):
    """The reduced rows of the meet of some spaces."""
    if not spaces:
        return complement_rows(modulus, width, ())
    order = sorted(spaces, key=len)
    common = reduced_rows(modulus, order[0])
    for space in order[1:]:
        common = common_rows(modulus, width, common, reduced_rows(modulus, space))
    return common


def without_entry(modulus, rows, at):
    """The rows, of which the last one that is not 0 at this place is taken off the others and left out."""
    touched = [k for k, row in enumerate(rows) if row[at] != 0]
    if not touched:
        return rows
    last = rows[touched[-1]]
    unit = inverse_of(modulus, last[at])
    before = [
        row if row[at] == 0 else tuple(without_multiple(modulus, row, row[at] * unit % modulus, last))
        for row in rows[:touched[-1]]
    ]
    return before + rows[touched[-1] + 1:]


def common_rows(modulus, width, one, other):
    """The reduced rows of the meet of the spans of reduced rows."""
    pivots = [row.index(1) for row in other]
    free = [at for at in range(width) if at not in pivots]
    # What the other rows leave of a row is put in front of it: sums with zeros there are in both spans.
    rows = [picked(remainder(modulus, other, row), free) + row for row in one]
    for at in range(len(free)):
        # The last row is 0 at the pivots of the earlier ones, so these stay reduced without it.
        rows = without_entry(modulus, rows, at)
    return tuple([row[len(free):] for row in rows])


def picked(vector, columns):
    """The entries of the vector at these positions, in this order."""
    return tuple([vector[at] for at in columns])


def projected_rows(modulus, vectors, columns):
    """The reduced rows of the projection of the span."""
    return reduced_rows(modulus, [picked(vector, columns) for vector in vectors])


def section_rows(modulus, width, vectors, columns):
    """The reduced rows of the section of the span."""
    others = [at for at in range(width) if at not in columns]
    rows = projected_rows(modulus, vectors, (*others, *columns))
    # With the other columns in front, the rows that are 0 there are those with later pivots.
    return tuple([row[len(others):] for row in rows if row.index(1) >= len(others)])
