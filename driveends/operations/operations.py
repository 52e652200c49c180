"""Joins and other operations that make one behaviour of others."""

from driveends.behaviours.bases import settled_records
from driveends.behaviours.behaviours import Behaviour, check_behaviour, check_comparable, check_many_ends
from driveends.diagrams.names import are_distinct_names, is_name
from driveends.driving.driving import check_ends, in_order
from driveends.errors import Conflict, InvalidBehaviour, InvalidEnds, InvalidName, UnknownName
from driveends.operations.building import alone_at, common_at, judged_by, laid, limited, seen_at, spanned_by


def check_modulus_of(behaviour, other):
    """Raise InvalidBehaviour if the other value is not a behaviour with the same modulus."""
    check_behaviour(other)
    if other.modulus != behaviour.modulus:
        raise InvalidBehaviour("the behaviours have different moduli")


def without_ends(behaviour, ends):
    """The other ends of the behaviour, in order."""
    return tuple([end for end in behaviour.ends if end not in ends])


def hidden(behaviour, ends):
    """The behaviour with these ends left out."""
    check_behaviour(behaviour)
    check_ends(behaviour, ends)
    return seen_at(behaviour, without_ends(behaviour, ends))


def held(behaviour, ends):
    """The behaviour of the rows that are 0 on these ends, which are left out."""
    check_behaviour(behaviour)
    check_ends(behaviour, ends)
    return alone_at(behaviour, without_ends(behaviour, ends))


def tied(behaviour, *ends, keep=False):
    """The behaviour of the rows that are equal on these ends."""
    return tied_all(behaviour, ends, keep=keep)


def tied_all(behaviour, ends, *, keep=False):
    """The behaviour of the rows that are equal on the ends of a tuple."""
    check_behaviour(behaviour)
    check_ends(behaviour, ends)
    if not ends:
        raise InvalidEnds("there should be one or more ends")
    first = in_order(behaviour, ends)[0]
    one_end = with_one_end(behaviour, ends, first)
    return one_end if keep is True else seen_at(one_end, without_ends(one_end, (first,)))


def with_one_end(behaviour, ends, first):
    """The behaviour of the rows that are equal on these ends, of which the first one stays."""
    kept = tuple([end for end in behaviour.ends if end == first or end not in ends])
    modulus, places = behaviour.modulus, [behaviour.ends.index(end) for end in ends]
    at = kept.index(first)
    records = []
    # A product with a row that has equal values there only needs the sum of the factors.
    for record, left in zip(behaviour.settled_duals, laid(behaviour.settled_duals, behaviour.ends, kept)):
        sums = [sum([vector[place] for place in places]) % modulus for vector in record]
        records.append(tuple([vector[:at] + (total,) + vector[at + 1:] for vector, total in zip(left, sums)]))
    return judged_by(modulus, kept, records)


def check_joint(one, other, ends):
    """Raise InvalidEnds if these are not distinct ends of both behaviours."""
    if not are_distinct_names(ends) or not all([end in one.ends and end in other.ends for end in ends]):
        raise InvalidEnds("these are not distinct ends of both behaviours")


def joined(one, other, ends, *, keep=False):
    """The behaviour of the pairs of rows that agree on these ends."""
    check_behaviour(one)
    check_modulus_of(one, other)
    check_joint(one, other, ends)
    for end in one.ends:
        if end in other.ends and end not in ends:
            raise Conflict(end)
    together = one.ends + without_ends(other, ends)
    kept = together if keep is True else tuple([end for end in together if end not in ends])
    check_many_ends(kept)
    return common_at((one, other), together, kept)


def beside(*behaviours):
    """The behaviour of all rows that consist of one row of each behaviour."""
    return beside_all(behaviours)


def beside_all(behaviours):
    """The behaviour of all rows that consist of one row of each behaviour of a tuple."""
    if not isinstance(behaviours, tuple) or not behaviours:
        raise InvalidBehaviour("there should be one or more behaviours")
    for behaviour in behaviours:
        check_modulus_of(behaviours[0], behaviour)
    ends = tuple([end for behaviour in behaviours for end in behaviour.ends])
    check_once(ends)
    check_many_ends(ends)
    modulus = behaviours[0].modulus
    generators = [record for one in behaviours for record in laid(one.settled_generators, one.ends, ends)]
    duals = [record for one in behaviours for record in laid(one.settled_duals, one.ends, ends)]
    # Both are least already, and only their order is not settled.
    return limited(
        modulus, ends, settled_records(modulus, len(ends), generators), settled_records(modulus, len(ends), duals)
    )


def check_once(ends):
    """Raise Conflict with the first name that stands there a second time."""
    for at, end in enumerate(ends):
        if end in ends[:at]:
            raise Conflict(end)


def plus(one, other):
    """The behaviour of all sums of a row of one and a row of the other one."""
    check_comparable(one, other)
    return spanned_by(one.modulus, one.ends, one.settled_generators + other.settled_generators)


def meet(one, other):
    """The behaviour of the rows of both."""
    check_comparable(one, other)
    return judged_by(one.modulus, one.ends, one.settled_duals + other.settled_duals)


def renamed(behaviour, **names):
    """The behaviour with new names for ends."""
    return renamed_by(behaviour, names)


def renamed_by(behaviour, names):
    """The behaviour with new names for ends, from a dict."""
    check_behaviour(behaviour)
    if not isinstance(names, dict):
        raise InvalidName("new names are given by a dict")
    for name in names:
        if name not in behaviour.ends:
            raise UnknownName(name)
    if not all([is_name(new_name) for new_name in names.values()]):
        raise InvalidName("a new name has one to eight letters a to z")
    ends = tuple([names.get(end, end) for end in behaviour.ends])
    check_once(ends)
    return Behaviour(behaviour.modulus, ends, behaviour.settled_generators, behaviour.settled_duals)


def reordered(behaviour, ends):
    """The behaviour with its ends in this order."""
    check_behaviour(behaviour)
    if not are_distinct_names(ends) or sorted(ends) != sorted(behaviour.ends):
        raise InvalidEnds("all ends should be there, each once")
    modulus, width = behaviour.modulus, len(ends)
    generators = settled_records(modulus, width, laid(behaviour.settled_generators, behaviour.ends, ends))
    duals = settled_records(modulus, width, laid(behaviour.settled_duals, behaviour.ends, ends))
    return Behaviour(modulus, ends, generators, duals)
