"""Fillings and bars, without checks: the diagram is known to be plain, and the record to be right."""

from driveends.diagrams.networks import Network
from driveends.numbers.arithmetic import combined, dot_product
from driveends.spaces.elimination import picked, reduced_rows
from driveends.spaces.spaces import factors_for


def shown_vectors(diagram, record, finite):
    """For each time of the stretch the values of the ends, or None where they are arbitrary."""
    zeros = tuple([0 for _ in diagram.ends])
    before = [zeros for _ in range(diagram.delays)]
    behind = [zeros if finite else None for _ in range(diagram.delays)]
    return [*before, *record, *behind]


class Stretch:
    """A network over the times of a stretch, counted from 0.

    A need is a row of factors for the delayed lines at one time, and a last number: the sum of all
    these is 0 if the later times can be filled. Needs are found from the last time to the first one,
    and then the lines are filled from the first time to the last one. At each time the rows that
    have to hold are stacked: they have factors for the unknown lines, for the delayed lines one step
    before, and a last number.
    """

    def __init__(self, diagram, record, finite):
        network = Network(diagram)
        places, rows = network.solved()
        first = len(network.others)
        last = first + len(network.inner) + len(network.shown) + len(network.delayed)
        kept = [*network.inner, *network.shown]
        self.network = network
        self.many_equations = len(network.vectors)
        self.places = places
        self.known = shown_vectors(diagram, record, finite)
        self.direct = [row[:last] for row in rows if row.index(1) < first]
        self.linked = [row[first:last] + (0,) for row in rows if row.index(1) >= first]
        self.origins = [row[last:] for row in rows if row.index(1) >= first]
        self.kept_places = [kept.index(line) for line in network.delayed]
        self.stacks = []
        self.needs = [[]]
        self.find_needs()

    def many_unknown(self, known):
        """The number of unknown lines, but for the other ones."""
        return len(self.network.inner) + (len(self.network.shown) if known is None else 0)

    def row_of_need(self, need):
        """The need behind a time as a row for this time."""
        width = len(self.network.inner) + len(self.network.shown)
        row = [0 for _ in range(width + len(need))]
        for place, factor in zip(self.kept_places, need):
            row[place] = factor
        row[-1] = need[-1]
        return tuple(row)

    def laid(self, row, known):
        """The row with the known values of the ends in its last number."""
        if known is None:
            return row
        first = len(self.network.inner)
        last = first + len(known)
        added = row[-1] + dot_product(self.network.prime, row[first:last], known)
        return row[:first] + row[last:-1] + (added % self.network.prime,)

    def find_needs(self):
        """Set the stacks and the needs of all times; only called while the stretch is made."""
        for known in self.known[::-1]:
            rows = self.linked + [self.row_of_need(need) for need in self.needs[0]]
            stack = [self.laid(row, known) for row in rows]
            many = self.many_unknown(known)
            left = [row[many:] for row in reduced_rows(self.network.prime, stack) if row.index(1) >= many]
            self.stacks.insert(0, stack)
            self.needs.insert(0, left)

    def broken_needs(self):
        """The needs of the first time that do not hold, as all lines are 0 before it."""
        return [need for need in self.needs[0] if need[-1] != 0]

    def kept_values(self, at, before):
        """Values of the inner lines and the ends at a time, behind these values of the delayed lines."""
        prime, known = self.network.prime, self.known[at]
        many = self.many_unknown(known)
        rows = [
            row[:many] + ((row[-1] + dot_product(prime, row[many:-1], before)) % prime,)
            for row in self.stacks[at]
        ]
        values = [0 for _ in range(many)]
        for row in reduced_rows(prime, rows):
            values[row.index(1)] = -row[many] % prime
        return tuple(values) if known is None else (*values, *known)

    def other_values(self, kept, before):
        """Values of the other lines at a time."""
        first = len(self.network.others)
        values = [0 for _ in range(first)]
        for row in self.direct:
            values[row.index(1)] = -dot_product(self.network.prime, row[first:], kept + before) % self.network.prime
        return tuple(values)

    def table(self):
        """A dict from each line to its values, if no need is broken."""
        before = tuple([0 for _ in self.network.delayed])
        columns = []
        for at in range(len(self.known)):
            kept = self.kept_values(at, before)
            columns.append(self.other_values(kept, before) + kept)
            before = picked(kept, self.kept_places)
        lines = [*self.network.others, *self.network.inner, *self.network.shown]
        return {line: tuple([column[lines.index(line)] for column in columns]) for line in sorted(lines)}

    def multipliers(self, need):
        """For each time the factors of all equations that add up to the broken need of the first time."""
        prime, found = self.network.prime, []
        for at, stack in enumerate(self.stacks):
            target = tuple([0 for _ in range(self.many_unknown(self.known[at]))]) + tuple(need)
            factors = factors_for(prime, len(target), stack, target)
            many = len(self.linked)
            found.append(self.spread(combined(prime, len(self.places), self.origins, factors[:many])))
            need = combined(prime, len(need), self.needs[at + 1], factors[many:])
        return tuple(found)

    def spread(self, factors):
        """The factors of the equations at the places, as factors of all equations."""
        vector = [0 for _ in range(self.many_equations)]
        for place, factor in zip(self.places, factors):
            vector[place] = factor
        return tuple(vector)
