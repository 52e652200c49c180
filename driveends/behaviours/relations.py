"""What the parts of a diagram say about its ends, without checks: the diagram is known to be plain."""

from driveends.behaviours.bases import both_bases, orthogonal, record_of, settled
from driveends.diagrams.networks import Network
from driveends.numbers.arithmetic import combined
from driveends.spaces.elimination import picked


def link_pairs(network):
    """The equations for the inner lines and the ends alone, as pairs of vectors: their factors now and before."""
    kept = [*network.inner, *network.shown]
    many = len(kept)
    places = [many + network.delayed.index(line) if line in network.delayed else -1 for line in kept]
    # The 0 behind a row stands for the lines that are not named one step before.
    return [(row[:many], picked((*row, 0), places)) for row in network.links()]


def summed(modulus, width, pairs, factors):
    """The record with the sum of all pairs, each time by time times its factor and one step later."""
    zeros = tuple([0 for _ in pairs])
    vectors = [now for now, _ in pairs] + [before for _, before in pairs]
    steps = list(zip((*factors, zeros), (zeros, *factors)))
    return tuple([combined(modulus, width, vectors, (*one, *other)) for one, other in steps])


def bases_of(diagram):
    """The settled generators of the behaviour of the diagram, and those of its dual."""
    network = Network(diagram)
    modulus, width = network.prime, len(network.shown)
    pairs = link_pairs(network)
    start, many = len(network.inner), len(pairs)
    # For each inner line the record of its factors, one for each pair: first now, then before.
    flats = [[now[at] for now, _ in pairs] + [before[at] for _, before in pairs] for at in range(start)]
    # Sums of delayed pairs in which no inner line is left say something about the ends.
    free = orthogonal(modulus, many, settled(modulus, many, flats))
    ends_only = [(now[start:], before[start:]) for now, before in pairs]
    records = [summed(modulus, width, ends_only, record_of(many, flat)) for flat in free]
    duals, generators = both_bases(modulus, width, records)
    return generators, duals
