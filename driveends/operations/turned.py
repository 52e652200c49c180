"""Dual and reversed behaviours, and products of records."""

from driveends.behaviours.bases import settled_records
from driveends.behaviours.behaviours import Behaviour, check_behaviour, check_comparable
from driveends.behaviours.checks import checks_of, is_finite_record
from driveends.depth.delays import diagram_of
from driveends.diagrams.diagrams import Diagram, check_plain
from driveends.diagrams.parts import Delay
from driveends.errors import InvalidRecord
from driveends.numbers.numbers import check_modulus
from driveends.numbers.records import check_record, is_record


def first_width(value):
    """The length of the first vector, or 0 if the value does not begin with one."""
    if not isinstance(value, tuple) or not value or not isinstance(value[0], tuple):
        return 0
    return len(value[0])


def check_one_record(modulus, record):
    """Raise InvalidRecord if this is not a record for any number of ends."""
    if not is_record(modulus, first_width(record), record):
        raise InvalidRecord("a record is a tuple of at most 200 vectors of one length")


def product_numbers(modulus, first, second):
    """The product of two records of one width."""
    if not first or not second:
        return ()
    width, last = len(first[0]), len(second) - 1
    numbers = [number for vector in first for number in vector]
    # With the second record backwards, the pairs of a time stand at one distance from each other.
    backwards = [number for vector in second[::-1] for number in vector]
    found = []
    for time in range(len(first) + last):
        one = numbers[max(0, time - last) * width:(time + 1) * width]
        other = backwards[max(0, last - time) * width:]
        found.append(sum([a * b for a, b in zip(one, other)]) % modulus)
    return tuple(found)


def product_of(modulus, first, second):
    """The product of two records."""
    check_modulus(modulus)
    check_one_record(modulus, first)
    check_one_record(modulus, second)
    if first and second and len(first[0]) != len(second[0]):
        raise InvalidRecord("the records have vectors of different lengths")
    return product_numbers(modulus, first, second)


def dual(behaviour):
    """The behaviour of the rows whose products with all rows are 0."""
    check_behaviour(behaviour)
    return Behaviour(behaviour.modulus, behaviour.ends, behaviour.settled_duals, behaviour.settled_generators)


def reversed_records(behaviour, records):
    """Settled generators for the reverses of these least ones."""
    backwards = [record[::-1] for record in records]
    return settled_records(behaviour.modulus, len(behaviour), backwards)


def reversed_time(behaviour):
    """The behaviour whose finite records are the reverses."""
    check_behaviour(behaviour)
    generators = reversed_records(behaviour, behaviour.settled_generators)
    duals = reversed_records(behaviour, behaviour.settled_duals)
    return Behaviour(behaviour.modulus, behaviour.ends, generators, duals)


def are_orthogonal(one, other):
    """Whether the product of every row of one and every row of the other is 0."""
    check_comparable(one, other)
    checks = checks_of(one.settled_generators)
    found = [is_finite_record(one.modulus, len(one), checks, record) for record in other.settled_generators]
    return all(found)


def product_gap(behaviour, record):
    """A finite record whose product with this one is not 0, or None."""
    check_behaviour(behaviour)
    check_record(behaviour.modulus, len(behaviour), record)
    for generator in behaviour.settled_generators:
        if any(product_numbers(behaviour.modulus, generator, record)):
            return generator
    return None


def turned_part(part):
    """The part, but a delay the other way round."""
    if part.kind != "Delay":
        return part
    before, after = part.lines
    return Delay(after, before)


def turned(diagram):
    """The diagram with all delays the other way round."""
    check_plain(diagram)
    return Diagram.of(diagram.modulus, tuple([turned_part(part) for part in diagram.parts]), diagram.ends)


def dual_diagram(diagram):
    """A plain diagram whose behaviour is the dual, with no more delays."""
    # The dual has the depth of the behaviour, which is not greater than the number of delays.
    return diagram_of(dual(Behaviour.of(diagram)))
