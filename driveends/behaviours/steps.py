"""What can come next behind a past, without checks: the past is known to be a beginning.

The possible vectors are an offset plus the first space. The offset is 0 at the pivots of the first
space; its other entries are sums over the last vectors of the past, each entry times a factor.
"""

from driveends.behaviours.checks import longest_of
from driveends.spaces.elimination import in_span, picked, reduced_rows


def predictors_of(behaviour):
    """For each column without a pivot the pair (column, factors for the last numbers of the past)."""
    modulus, width = behaviour.modulus, len(behaviour)
    pivots = [row.index(1) for row in behaviour.first_space]
    free = [column for column in range(width) if column not in pivots]
    longest = longest_of(behaviour.checks)
    vectors = []
    for check in behaviour.checks:
        padded = tuple([0 for _ in range(longest - len(check))]) + check
        # The last vector of a check is for the vector that comes next, which is 0 at the pivots.
        vectors.append(picked(padded[longest - width:], free) + padded[:longest - width])
    # The first vectors of the dual are independent at the free columns, so each has its own row.
    rows = reduced_rows(modulus, vectors)
    return [(column, [-factor % modulus for factor in row[len(free):]]) for column, row in zip(free, rows)]


def last_numbers(width, many, past):
    """So many numbers from the end of the past, with zeros ahead of it."""
    recent = past[max(0, len(past) - many // width):]
    zeros = [0 for _ in range(many - len(recent) * width)]
    return zeros + [number for vector in recent for number in vector]


def offset_behind(behaviour, predictors, past):
    """The offset of the vectors that are possible behind the past."""
    modulus, width = behaviour.modulus, len(behaviour)
    vector = [0 for _ in range(width)]
    if predictors:
        last = last_numbers(width, len(predictors[0][1]), past)
        for column, factors in predictors:
            vector[column] = sum([factor * number for factor, number in zip(factors, last)]) % modulus
    return tuple(vector)


def sum_of_vectors(modulus, one, other):
    """The sum of two vectors."""
    return tuple([(first + second) % modulus for first, second in zip(one, other)])


def difference_of(modulus, one, other):
    """The first vector minus the second one."""
    return tuple([(first - second) % modulus for first, second in zip(one, other)])


def is_possible(behaviour, offset, vector):
    """Whether the vector is the offset plus a vector of the first space."""
    return in_span(behaviour.modulus, behaviour.first_space, difference_of(behaviour.modulus, vector, offset))
