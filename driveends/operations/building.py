"""New behaviours from generators and their duals, without checks but for the limits.

To leave ends out of the generators is to hide them, and to leave them out of the dual is to hold
them. The records of two behaviours together span what has the sums of their rows, and the records
of both duals together span the dual of what has the rows of both.
"""

from driveends.behaviours.bases import both_bases
from driveends.behaviours.behaviours import Behaviour
from driveends.errors import TooLarge
from driveends.spaces.elimination import picked


def limited(modulus, ends, generators, duals):
    """The behaviour with these settled generators and those of its dual, if its depth is not too large."""
    behaviour = Behaviour(modulus, ends, generators, duals)
    if behaviour.depth > Behaviour.MAX_DEPTH:
        raise TooLarge(Behaviour.MAX_DEPTH)
    return behaviour


def laid(records, ends, others):
    """The records for some ends as records for other ones: ends that are missing there are 0."""
    places = [ends.index(end) if end in ends else -1 for end in others]
    # The 0 behind each vector stands for the missing ends.
    return [tuple([picked((*vector, 0), places) for vector in record]) for record in records]


def spanned_by(modulus, ends, records):
    """The behaviour that the records span."""
    generators, duals = both_bases(modulus, len(ends), records)
    return limited(modulus, ends, generators, duals)


def judged_by(modulus, ends, records):
    """The behaviour whose dual the records span."""
    duals, generators = both_bases(modulus, len(ends), records)
    return limited(modulus, ends, generators, duals)


def seen_at(behaviour, kept):
    """The behaviour with all other ends hidden, and the kept ones in this order."""
    return spanned_by(behaviour.modulus, kept, laid(behaviour.settled_generators, behaviour.ends, kept))


def alone_at(behaviour, kept):
    """The behaviour with all other ends held, and the kept ones in this order."""
    return judged_by(behaviour.modulus, kept, laid(behaviour.settled_duals, behaviour.ends, kept))


def common_bases(modulus, behaviours, ends, kept):
    """Settled generators, and those of the dual, of the rows on the kept ends.

    These are all rows on all ends that fit each of the behaviours, with the ends that are not kept left out.
    """
    records = [record for one in behaviours for record in laid(one.settled_duals, one.ends, ends)]
    duals, generators = both_bases(modulus, len(ends), records)
    if kept == ends:
        return generators, duals
    return both_bases(modulus, len(kept), laid(generators, ends, kept))


def common_at(behaviours, ends, kept):
    """The behaviour of the rows on the kept ends that fit all of the behaviours, one or more, on all ends."""
    modulus = behaviours[0].modulus
    generators, duals = common_bases(modulus, behaviours, ends, kept)
    return limited(modulus, kept, generators, duals)
