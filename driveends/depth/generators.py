"""Generators of behaviours, and how finite records are sums of them."""

from driveends.behaviours.bases import flat_record, leaders_of, total_depth
from driveends.behaviours.behaviours import check_behaviour
from driveends.behaviours.steps import last_numbers
from driveends.errors import InvalidGenerators, InvalidRecord
from driveends.numbers.arithmetic import columns_of, combined, dot_product
from driveends.spaces.elimination import picked, reduced_rows


def least_generators(behaviour):
    """Least generators."""
    check_behaviour(behaviour)
    return behaviour.settled_generators


def are_many_finite(behaviour, value):
    """Whether the value is a tuple of as many finite records as the rank."""
    if not isinstance(value, tuple) or len(value) != behaviour.rank:
        return False
    return all([record in behaviour for record in value])


def are_independent(modulus, vectors):
    """Whether none of the vectors is a combination of the others."""
    return len(reduced_rows(modulus, vectors)) == len(vectors)


def are_generators(behaviour, value):
    """Whether the value is generators."""
    check_behaviour(behaviour)
    if not are_many_finite(behaviour, value):
        return False
    width = len(behaviour)
    leaders = leaders_of(behaviour.modulus, width, [flat_record(record) for record in value])
    if len(leaders) < behaviour.rank:
        return False
    # Records that do not give all finite ones by their delays can only be replaced by ones of more depth.
    return total_depth(width, list(leaders.values())) == behaviour.depth


def are_least(behaviour, value):
    """Whether the value is least generators."""
    check_behaviour(behaviour)
    if not are_many_finite(behaviour, value) or () in value:
        return False
    # With independent last vectors no sums are shorter, so the lengths alone tell whether some records are missing.
    if not are_independent(behaviour.modulus, [record[-1] for record in value]):
        return False
    return sum([len(record) - 1 for record in value]) == behaviour.depth


def factors(behaviour, generators, record):
    """For each of the generators its factors, delayed by 0, by 1 and so on, in the sum that is the record."""
    if not are_generators(behaviour, generators):
        raise InvalidGenerators("these are not generators of the behaviour")
    if record not in behaviour:
        raise InvalidRecord("the record is not finite in the behaviour")
    if not generators:
        return ()
    found = factor_vectors(behaviour.modulus, generators, record)
    return tuple([without_last_zeros(numbers) for numbers in columns_of(len(generators), found)])


def without_last_zeros(numbers):
    """The numbers up to the last one that is not 0."""
    many = len(numbers)
    while many and numbers[many - 1] == 0:
        many -= 1
    return numbers[:many]


def factor_vectors(modulus, generators, record):
    """Time by time the factors of all generators; the record is known to be a sum of them."""
    pivots, unmixed = unmixing(modulus, [one[0] for one in generators])
    taps = tap_columns(modulus, generators, pivots, unmixed)
    found = []
    # Behind the record, as many times without factors as generators reach back end the sum.
    reach = max([len(one) for one in generators]) - 1
    idle = 0
    while len(found) < len(record) or idle < reach:
        vector = combined(modulus, len(generators), unmixed, numbers_at(record, len(found), pivots))
        last = last_numbers(len(generators), reach * len(generators), found)
        left = tuple([(one - dot_product(modulus, last, tap)) % modulus for one, tap in zip(vector, taps)])
        idle = 0 if any(left) else idle + 1
        found.append(left)
    return found


def unmixing(modulus, vectors):
    """Columns, and the rows by which entries there are multiplied to get the factors of these independent vectors."""
    many = len(vectors)
    width = len(vectors[0])
    marked = [vector + tuple([int(at == k) for at in range(many)]) for k, vector in enumerate(vectors)]
    rows = reduced_rows(modulus, marked)
    return [row.index(1) for row in rows], [row[width:] for row in rows]


def numbers_at(record, time, columns):
    """The entries of the record at this time, 0 behind its end."""
    if time >= len(record):
        return tuple([0 for _ in columns])
    return picked(record[time], columns)


def tap_columns(modulus, generators, pivots, unmixed):
    """For each generator the factors by which earlier factors, the last ones at the end, make it already present."""
    many = len(generators)
    rows = []
    for back in range(max([len(one) for one in generators]) - 1, 0, -1):
        rows.extend([combined(modulus, many, unmixed, numbers_at(one, back, pivots)) for one in generators])
    return columns_of(many, rows)
