"""Papers that show the depth of a behaviour, and diagrams with no more delays than it."""

from driveends.behaviours.behaviours import check_behaviour
from driveends.depth.cells import cell_places, machine_of, shown_by
from driveends.depth.delays import diagram_of
from driveends.diagrams.diagrams import Diagram
from driveends.driving.driving import check_driving, check_ends, drives, is_ends_of, positions
from driveends.errors import TooLarge
from driveends.numbers.arithmetic import columns_of, dot_product
from driveends.numbers.numbers import is_int
from driveends.numbers.records import is_record
from driveends.spaces.elimination import picked, reduced_rows, remainder, with_vector

MAX_TEST_STEPS = 60


def depth_paper(behaviour, ends):
    """A depth paper with these driving ends."""
    check_behaviour(behaviour)
    check_ends(behaviour, ends)
    check_driving(behaviour, ends)
    return (ends, begun_generators(behaviour), telling_tests(behaviour, ends))


def begun_generators(behaviour):
    """For each cell of a machine a past of one length that leaves it at 1, and the other ones at 0."""
    generators = behaviour.settled_generators
    zeros = tuple([0 for _ in behaviour.ends])
    length = max([len(one) for one in generators], default=1) - 1
    pasts = []
    for k, back in cell_places(generators):
        before = tuple([zeros for _ in range(length - back)])
        pasts.append(before + generators[k][:back])
    return tuple(pasts)


def telling_tests(behaviour, ends):
    """As many tests as cells, such that the answers tell all cells apart."""
    modulus = behaviour.modulus
    _, others, stay, _, show, _ = machine_of(behaviour, ends)
    rows, tests = (), []
    steps = 0
    answers = columns_of(len(others), show)
    while len(tests) < len(stay):
        for end, column in zip(others, answers):
            left = remainder(modulus, rows, column)
            if any(left):
                rows = with_vector(modulus, rows, left)
                tests.append((steps, end))
        steps += 1
        # A cell answers a step later what the cells answer now that it leads to.
        answers = [tuple([dot_product(modulus, row, column) for row in stay]) for column in answers]
    return tuple(tests)


def are_pasts(behaviour, value):
    """Whether the value is a tuple of as many beginnings as the depth, all of one length."""
    if not isinstance(value, tuple) or len(value) != behaviour.depth:
        return False
    if not all([is_record(behaviour.modulus, len(behaviour), record) for record in value]):
        return False
    if not all([len(record) == len(value[0]) for record in value]):
        return False
    return all([behaviour.begins(record) for record in value])


def is_test(behaviour, value):
    """Whether the value is a pair of a number of steps and an end."""
    if not isinstance(value, tuple) or len(value) != 2 or value[1] not in behaviour.ends:
        return False
    return is_int(value[0]) and 0 <= value[0] <= MAX_TEST_STEPS


def are_tests(behaviour, value):
    """Whether the value is a tuple of as many tests as the depth."""
    if not isinstance(value, tuple) or len(value) != behaviour.depth:
        return False
    return all([is_test(behaviour, test) for test in value])


def answers_of(behaviour, ends, past, tests):
    """The answers of a past to the tests; to those at the driving ends they are 0."""
    machine = machine_of(behaviour, ends)
    columns = positions(behaviour, ends)
    many = max([steps for steps, _ in tests]) + 1
    zeros = tuple([0 for _ in columns])
    inputs = [picked(vector, columns) for vector in past] + [zeros for _ in range(many)]
    shown = shown_by(behaviour.modulus, machine, inputs)[len(past):]
    others = machine[1]
    return tuple([shown[steps][others.index(end)] if end in others else 0 for steps, end in tests])


def is_depth_paper(behaviour, value):
    """Whether the value is a depth paper."""
    check_behaviour(behaviour)
    if not isinstance(value, tuple) or len(value) != 3:
        return False
    ends, pasts, tests = value
    if not is_ends_of(behaviour, ends) or not drives(behaviour, ends):
        return False
    if not are_pasts(behaviour, pasts) or not are_tests(behaviour, tests):
        return False
    answers = [answers_of(behaviour, ends, past, tests) for past in pasts]
    return len(reduced_rows(behaviour.modulus, answers)) == behaviour.depth


def fewest_delays(behaviour):
    """A plain diagram with this behaviour and as many delays as the depth."""
    check_behaviour(behaviour)
    if behaviour.depth > Diagram.MAX_DELAYS:
        raise TooLarge(Diagram.MAX_DELAYS)
    return diagram_of(behaviour)
