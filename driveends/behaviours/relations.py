"""What the parts of a diagram say about its ends, without checks: the diagram is known to be plain."""

from driveends.behaviours.bases import both_bases, flat_record, orthogonal, record_of, settled
from driveends.diagrams.diagrams import equations
from driveends.numbers.arithmetic import combined
from driveends.spaces.elimination import picked, reduced_rows


def delayed_lines(pairs):
    """The lines whose values one step before are named by an equation, ascending."""
    return sorted(set([line for _, before in pairs for line in before]))


def equation_vector(pair, lines, delayed):
    """The factors of these lines now, then those of the delayed lines one step before."""
    now, before = pair
    factors = [before.get(line, 0) for line in delayed]
    return tuple([now.get(line, 0) for line in lines] + factors)


def links(diagram, inner):
    """Equations for the inner lines and the ends alone, as pairs of vectors: their factors now and before."""
    pairs = equations(diagram)
    delayed = delayed_lines(pairs)
    kept = [*inner, *diagram.ends]
    others = [line for line in diagram.lines if line not in kept]
    rows = reduced_rows(diagram.modulus, [equation_vector(pair, [*others, *kept], delayed) for pair in pairs])
    # The other lines are not named one step before, so each time can be solved for them by itself.
    left = [row[len(others):] for row in rows if row.index(1) >= len(others)]
    places = [delayed.index(line) + len(kept) if line in delayed else -1 for line in kept]
    # The 0 behind a row stands for the lines that are not named one step before.
    return [(row[:len(kept)], picked((*row, 0), places)) for row in left]


def summed(modulus, width, pairs, factors):
    """The record with the sum of all pairs, each time by time times its factor and one step later."""
    now = [one for one, _ in pairs]
    before = [other for _, other in pairs]
    zeros = tuple([0 for _ in pairs])
    vectors = [*now, *before]
    steps = zip((*factors, zeros), (zeros, *factors))
    return tuple([combined(modulus, width, vectors, (*one, *other)) for one, other in steps])


def bases_of(diagram):
    """The settled generators of the behaviour of the diagram, and those of its dual."""
    modulus, ends = diagram.modulus, diagram.ends
    delayed = delayed_lines(equations(diagram))
    inner = [line for line in delayed if line not in ends]
    pairs = links(diagram, inner)
    # For each inner line the record of its factors, one for each pair: first now, then before.
    flats = [[now[at] for now, _ in pairs] + [before[at] for _, before in pairs] for at in range(len(inner))]
    many = len(pairs)
    free = orthogonal(modulus, many, settled(modulus, many, flats))
    ends_only = [(now[len(inner):], before[len(inner):]) for now, before in pairs]
    records = [summed(modulus, len(ends), ends_only, record_of(many, flat)) for flat in free]
    duals, generators = both_bases(modulus, len(ends), records)
    return generators, duals
