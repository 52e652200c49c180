"""Machines that run behaviours: cells, and four matrices."""

from driveends.behaviours.behaviours import Behaviour, check_behaviour
from driveends.depth.cells import machine_of, shown_by
from driveends.diagrams.names import are_distinct_names
from driveends.driving.driving import check_driving, check_ends
from driveends.errors import InvalidMachine
from driveends.numbers.numbers import are_rows, check_modulus
from driveends.numbers.records import check_record

MAX_CELLS = 30


def machine(behaviour, ends):
    """A right machine with as many cells as the depth."""
    check_behaviour(behaviour)
    check_ends(behaviour, ends)
    check_driving(behaviour, ends)
    return machine_of(behaviour, ends)


def has_names(value):
    """Whether the first two elements are tuples of names, at most eight, and all distinct."""
    drivers, others = value[:2]
    if not isinstance(drivers, tuple) or not isinstance(others, tuple):
        return False
    return are_distinct_names(drivers + others) and len(drivers + others) <= Behaviour.MAX_ENDS


def is_form(modulus, value):
    """Whether the value has the form of a machine, for a modulus that is known to be one."""
    if not isinstance(value, tuple) or len(value) != 6 or not has_names(value):
        return False
    drivers, others, stay, enter, show, direct = value
    if not isinstance(stay, tuple) or len(stay) > MAX_CELLS:
        return False
    many = len(stay)
    if not are_rows(modulus, many, many, stay) or not are_rows(modulus, len(drivers), many, enter):
        return False
    return are_rows(modulus, many, len(others), show) and are_rows(modulus, len(drivers), len(others), direct)


def is_machine(behaviour, ends, value):
    """Whether the value is a right machine for the driving ends."""
    right = machine(behaviour, ends)
    if not is_form(behaviour.modulus, value) or value[:2] != right[:2]:
        return False
    # Two machines that differ do so within as many times as both have cells, and one more.
    times = len(value[2]) + len(right[2]) + 1
    many = len(right[0])
    zeros = tuple([0 for _ in range(many)])
    for driver in range(many):
        impulse = tuple([int(at == driver) for at in range(many)])
        inputs = (impulse, *[zeros for _ in range(times - 1)])
        if shown_by(behaviour.modulus, value, inputs) != shown_by(behaviour.modulus, right, inputs):
            return False
    return True


def outputs(modulus, machine, inputs):
    """What the others of the machine are at the times 0, 1, 2 and so on for these vectors of the drivers."""
    check_modulus(modulus)
    if not is_form(modulus, machine):
        raise InvalidMachine("this does not have the form of a machine")
    check_record(modulus, len(machine[0]), inputs)
    return shown_by(modulus, machine, inputs)
