"""Which behaviours contain others, and which records tell them apart."""

from driveends.behaviours.bases import both_bases
from driveends.behaviours.behaviours import Behaviour, check_behaviour, check_comparable
from driveends.behaviours.checks import is_finite_record
from driveends.behaviours.steps import offset_behind, predictors_of, sum_of_vectors
from driveends.errors import InvalidNumber
from driveends.numbers.arithmetic import combined
from driveends.numbers.numbers import is_int
from driveends.numbers.records import MAX_RECORD
from driveends.spaces.elimination import in_span


def first_outside(one, other):
    """A settled generator of one that is not finite in the other one, or None."""
    for record in one.settled_generators:
        if not is_finite_record(one.modulus, len(one), other.checks, record):
            return record
    return None


def is_within(one, other):
    """Whether all rows of one are rows of the other one."""
    check_comparable(one, other)
    return first_outside(one, other) is None


def comparison(one, other):
    """The word for how two behaviours lie in one another."""
    check_comparable(one, other)
    inside = first_outside(one, other) is None
    around = first_outside(other, one) is None
    if inside:
        return "equal" if around else "within"
    return "contains" if around else "unlike"


def is_chain(*behaviours):
    """Whether each behaviour is within the next one."""
    for behaviour in behaviours:
        check_comparable(behaviours[0], behaviour)
    return all([first_outside(one, other) is None for one, other in zip(behaviours, behaviours[1:])])


def last_rows_outside(one, other):
    """The last vector of the first space of one that is not in the first space of the other one, if there is one."""
    outside = [row for row in one.first_space if not in_span(one.modulus, other.first_space, row)]
    return outside[-1:]


def separating(one, other):
    """The smallest record that is a beginning of exactly one of both, or None."""
    check_comparable(one, other)
    if one == other:
        return None
    # The smallest vector of a space outside of another one is the last such reduced row.
    different = last_rows_outside(one, other) + last_rows_outside(other, one)
    if different:
        return (min(different),)
    return first_parting(one, other)


def first_parting(one, other):
    """The smallest separating record of two behaviours with one first space.

    As long as both have the same beginnings, the reduced rows among these that are not 0 at time 0
    are the rows of the first space, each followed by offsets alone. So they part first.
    """
    first, second = predictors_of(one), predictors_of(other)
    paths = [[row] for row in one.first_space]
    for _ in range(one.depth + other.depth):
        found = []
        for path in paths:
            offset = offset_behind(one, first, path)
            another = offset_behind(other, second, path)
            if offset != another:
                found = [(*path, min(offset, another))]
            path.append(offset)
        if found:
            return found[0]
    return None


def common_steps(one, other):
    """The greatest number of vectors up to which both have the same beginnings, or None."""
    record = separating(one, other)
    return None if record is None else len(record) - 1


def next_factors(modulus, factors):
    """The next vector of factors in ascending order, or None behind the last one."""
    for at in range(len(factors) - 1, -1, -1):
        if factors[at] + 1 < modulus:
            return factors[:at] + (factors[at] + 1,) + tuple([0 for _ in factors[at + 1:]])
    return None


def beginnings(behaviour, length):
    """Yield all beginnings with so many vectors, ascending."""
    check_behaviour(behaviour)
    if not is_int(length) or length < 0 or length > MAX_RECORD:
        raise InvalidNumber(length)
    modulus, space = behaviour.modulus, behaviour.first_space
    predictors = predictors_of(behaviour)
    record = []
    chosen = []
    factors = tuple([0 for _ in space])
    while factors is not None:
        while len(record) < length:
            taken = combined(modulus, len(behaviour), space, factors)
            record.append(sum_of_vectors(modulus, offset_behind(behaviour, predictors, record), taken))
            chosen.append(factors)
            # Behind a vector that is not the last one, the smallest ones come first.
            factors = tuple([0 for _ in space])
        yield tuple(record)
        factors = None
        while chosen and factors is None:
            record.pop()
            factors = next_factors(modulus, chosen.pop())


def inclusion(one, other):
    """A paper that one is within the other one, or that it is not."""
    check_comparable(one, other)
    record = first_outside(one, other)
    if record is None:
        return ("within", one.settled_generators)
    return ("gap", record)


def is_spanning(one, other, value):
    """Whether the value is a tuple of records that are finite in both, and from which one can be made."""
    if not isinstance(value, tuple) or not all([record in one and record in other for record in value]):
        return False
    if sum([len(record) for record in value]) > Behaviour.MAX_SPAN:
        return False
    generators, _ = both_bases(one.modulus, len(one), value)
    return generators == one.settled_generators


def is_inclusion(one, other, value):
    """Whether the value is an inclusion paper."""
    check_comparable(one, other)
    if not isinstance(value, tuple) or len(value) != 2:
        return False
    if value[0] == "within":
        return is_spanning(one, other, value[1])
    return value[0] == "gap" and value[1] in one and value[1] not in other
