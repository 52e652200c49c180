"""Machines whose cells hold what generators still have to show, without checks: the arguments are known to be right.

A row of a behaviour is a sum of generators, delayed and with factors. At each time the factors of
the generators that begin then are free, and a cell holds a factor with which one of them began some
times before. So the cells are the same for every driving set: only the way in which the drivers and
the cells fix the new factors differs.
"""

from driveends.driving.driving import in_order, positions
from driveends.numbers.arithmetic import columns_of, combined, dot_product
from driveends.spaces.elimination import picked, reduced_rows


def cell_places(generators):
    """The pairs (generator, times since it began), one for each cell."""
    return [(k, back) for k, one in enumerate(generators) for back in range(1, len(one))]


def inverted(modulus, matrix):
    """The inverse of a matrix that is known to have one."""
    many = len(matrix)
    marked = [row + tuple([int(at == k) for at in range(many)]) for k, row in enumerate(matrix)]
    return [row[many:] for row in reduced_rows(modulus, marked)]


def machine_of(behaviour, ends):
    """A right machine with as many cells as the depth."""
    modulus, generators = behaviour.modulus, behaviour.settled_generators
    drivers = in_order(behaviour, ends)
    others = tuple([end for end in behaviour.ends if end not in drivers])
    columns, rest = positions(behaviour, drivers), positions(behaviour, others)
    # What the drivers ask for, times these rows, is with which factors generators begin.
    start = inverted(modulus, [picked(one[0], columns) for one in generators])
    first = [picked(one[0], rest) for one in generators]
    places = cell_places(generators)
    stay, show = [], []
    for k, back in places:
        vector = generators[k][back]
        # What the cell shows at the drivers is not left to the new factors.
        begun = combined(modulus, len(drivers), start, [-number % modulus for number in picked(vector, columns)])
        stay.append(next_cells(places, begun, (k, back)))
        shown = combined(modulus, len(others), first, begun)
        show.append(tuple([(one + two) % modulus for one, two in zip(picked(vector, rest), shown)]))
    enter = [next_cells(places, begun, None) for begun in start]
    direct = [combined(modulus, len(others), first, begun) for begun in start]
    return (drivers, others, tuple(stay), tuple(enter), tuple(show), tuple(direct))


def next_cells(places, begun, held):
    """The next cells, if generators begin with these factors and the cell at the held place is 1."""
    following = None if held is None else (held[0], held[1] + 1)
    return tuple([begun[k] if back == 1 else int((k, back) == following) for k, back in places])


def shown_by(modulus, machine, inputs):
    """What the others of the machine are for these vectors of the drivers."""
    _, others, stay, enter, show, direct = machine
    outward = columns_of(len(others), show + direct)
    onward = columns_of(len(stay), stay + enter)
    cells = tuple([0 for _ in stay])
    found = []
    for numbers in inputs:
        known = cells + numbers
        found.append(tuple([dot_product(modulus, known, column) for column in outward]))
        cells = tuple([dot_product(modulus, known, column) for column in onward])
    return tuple(found)
