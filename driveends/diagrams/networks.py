"""The equations of a diagram, sorted by what concerns one time alone, without checks."""

from driveends.diagrams.diagrams import equations
from driveends.spaces.elimination import reduced_rows, remainder, with_vector


def delayed_lines(pairs):
    """The lines whose values one step before are named by an equation, ascending."""
    return sorted(set([line for _, before in pairs for line in before]))


def equation_vector(pair, lines, delayed):
    """The factors of these lines now, then those of the delayed lines one step before."""
    now, before = pair
    factors = [before.get(line, 0) for line in delayed]
    return tuple([now.get(line, 0) for line in lines] + factors)


def independent_places(modulus, vectors):
    """The positions of the vectors that are not in the span of earlier ones."""
    rows = ()
    places = []
    for at, vector in enumerate(vectors):
        left = remainder(modulus, rows, vector)
        if any(left):
            rows = with_vector(modulus, rows, left)
            places.append(at)
    return places


class Network:
    """The lines in four groups, and the equations as rows of factors for them.

    `delayed` are the lines that equations name one step before. `inner` are those of them that are
    not ends, `shown` are the ends, and `others` the lines that are neither ends nor delayed: each
    time can be solved for these by itself. A row has the factors of the other lines, the inner
    lines and the ends, and then of the delayed lines one step before.
    """

    def __init__(self, diagram):
        pairs = equations(diagram)
        self.prime = diagram.modulus
        self.shown = diagram.ends
        self.delayed = delayed_lines(pairs)
        self.inner = [line for line in self.delayed if line not in diagram.ends]
        kept = [*self.inner, *diagram.ends]
        self.others = [line for line in diagram.lines if line not in kept]
        self.vectors = [equation_vector(pair, [*self.others, *kept], self.delayed) for pair in pairs]

    def links(self):
        """The reduced rows that name no other lines, without the places of these."""
        rows = reduced_rows(self.prime, self.vectors)
        many = len(self.others)
        return [row[many:] for row in rows if row.index(1) >= many]

    def solved(self):
        """The positions of enough equations, and all reduced rows, with the factors of these equations behind them."""
        places = independent_places(self.prime, self.vectors)
        # Behind each vector stands which one it is, so that the sums tell how they were made.
        marked = [self.vectors[at] + tuple([int(at == one) for one in places]) for at in places]
        return places, reduced_rows(self.prime, marked)
