"""Driving sets: the ends that can be chosen freely, while all others follow."""

from driveends.behaviours.behaviours import check_behaviour
from driveends.diagrams.names import are_distinct_names
from driveends.errors import InvalidEnds, NotDriving, UnknownName
from driveends.numbers.arithmetic import columns_of, combined, dot_product
from driveends.numbers.numbers import is_number
from driveends.spaces.elimination import complement_rows, picked, projected_rows, reduced_rows
from driveends.spaces.spaces import column_bases


def is_ends_of(behaviour, value):
    """Whether the value is a tuple of distinct ends of the behaviour."""
    return are_distinct_names(value) and all([end in behaviour.ends for end in value])


def check_ends(behaviour, ends):
    """Raise InvalidEnds if this is not a tuple of distinct ends of the behaviour."""
    if not is_ends_of(behaviour, ends):
        raise InvalidEnds("these are not distinct ends of the behaviour")


def check_driving(behaviour, ends):
    """Raise NotDriving if these ends do not drive the behaviour."""
    paper = paper_against(behaviour, ends)
    if paper is not None:
        raise NotDriving(paper)


def positions(behaviour, ends):
    """The positions of the ends, ascending."""
    return [at for at, end in enumerate(behaviour.ends) if end in ends]


def in_order(behaviour, ends):
    """The ends in the order of the behaviour."""
    return tuple([end for end in behaviour.ends if end in ends])


def late_record(behaviour, columns):
    """A finite record whose first vector is not zero, but 0 at the columns, or None."""
    modulus, width = behaviour.modulus, len(behaviour)
    records = behaviour.settled_generators
    first = [record[0] for record in records]
    shown = reduced_rows(modulus, picked(columns_of(width, first), columns))
    sums = complement_rows(modulus, len(records), shown)
    if not sums:
        return None
    longest = max([len(record) for record in records])
    # Behind a shorter record there are zeros.
    zeros = tuple([0 for _ in range(width)])
    padded = [record + tuple([zeros for _ in range(longest - len(record))]) for record in records]
    return tuple([combined(modulus, width, vectors, sums[0]) for vectors in columns_of(longest, padded)])


def tied_factors(behaviour, columns):
    """A dict from some ends at the columns to factors with which their sum is 0 in the first space, or None."""
    rows = projected_rows(behaviour.modulus, behaviour.first_space, columns)
    ties = complement_rows(behaviour.modulus, len(columns), rows)
    if not ties:
        return None
    factors = {behaviour.ends[at]: factor for at, factor in zip(columns, ties[0]) if factor != 0}
    return {end: factors[end] for end in sorted(list(factors))}


def paper_against(behaviour, ends):
    """A paper against the ends, or None if they drive the behaviour."""
    columns = positions(behaviour, ends)
    record = late_record(behaviour, columns)
    if record is not None:
        return ("late", record)
    factors = tied_factors(behaviour, columns)
    return None if factors is None else ("tied", factors)


def answers(behaviour, ends):
    """For each driving end in order the vector of the first space that is 1 there, and 0 at the other ones."""
    columns = positions(behaviour, ends)
    others = [at for at in range(len(behaviour)) if at not in columns]
    order = [*columns, *others]
    rows = projected_rows(behaviour.modulus, behaviour.first_space, order)
    back = [order.index(at) for at in range(len(behaviour))]
    return [picked(row, back) for row in rows]


def drives(behaviour, ends):
    """Whether the ends drive the behaviour."""
    check_behaviour(behaviour)
    check_ends(behaviour, ends)
    columns = positions(behaviour, ends)
    rows = projected_rows(behaviour.modulus, behaviour.first_space, columns)
    return len(rows) == len(columns) == behaviour.rank


def driving_sets(behaviour):
    """Yield all driving sets in ascending order."""
    check_behaviour(behaviour)
    for columns in column_bases(behaviour.modulus, len(behaviour), behaviour.first_space):
        yield picked(behaviour.ends, columns)


def why_not(behaviour, ends):
    """A paper against the ends, a late one if there is one, or None if they drive the behaviour."""
    check_behaviour(behaviour)
    check_ends(behaviour, ends)
    return paper_against(behaviour, ends)


def is_late(behaviour, ends, value):
    """Whether the value is a finite record whose first vector is not zero, but 0 on the ends."""
    if value == () or value not in behaviour:
        return False
    return any(value[0]) and not any(picked(value[0], positions(behaviour, ends)))


def is_tied(behaviour, ends, value):
    """Whether the value is a dict from some of the ends to factors with which their sum is 0 in the first space."""
    if not isinstance(value, dict) or not value:
        return False
    if not all([end in ends and is_number(behaviour.modulus, value[end]) and value[end] != 0 for end in value]):
        return False
    factors = [value.get(end, 0) for end in behaviour.ends]
    return all([dot_product(behaviour.modulus, factors, row) == 0 for row in behaviour.first_space])


def is_paper_against(behaviour, ends, value):
    """Whether the value is a paper against the ends."""
    check_behaviour(behaviour)
    check_ends(behaviour, ends)
    if not isinstance(value, tuple) or len(value) != 2:
        return False
    if value[0] == "late":
        return is_late(behaviour, ends, value[1])
    return value[0] == "tied" and is_tied(behaviour, ends, value[1])


def at_once(behaviour, ends):
    """For each other end the driving ends that act on it at once, with their factors."""
    check_behaviour(behaviour)
    check_ends(behaviour, ends)
    check_driving(behaviour, ends)
    pairs = list(zip(in_order(behaviour, ends), answers(behaviour, ends)))
    found = {}
    for at, end in enumerate(behaviour.ends):
        if end not in ends:
            found[end] = {driver: vector[at] for driver, vector in pairs if vector[at] != 0}
    return found


def exchanges(behaviour, ends, name):
    """The driving ends that can be taken out if this end is put in."""
    acting = at_once(behaviour, ends)
    # The name may be any value, also one that a dict cannot look up.
    if name not in list(acting):
        raise UnknownName(name)
    return tuple(acting[name])


def led_ends(behaviour):
    """The ends that are in no driving set."""
    check_behaviour(behaviour)
    columns = columns_of(len(behaviour), behaviour.first_space)
    return tuple([end for end, column in zip(behaviour.ends, columns) if not any(column)])


def leading_ends(behaviour):
    """The ends that are in every driving set."""
    check_behaviour(behaviour)
    # If no other end is seen in the reduced row of a pivot, nothing can take its place.
    alone = [row.index(1) for row in behaviour.first_space if len(row) - row.count(0) == 1]
    return picked(behaviour.ends, alone)
