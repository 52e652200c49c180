"""Wishes: which behaviours a part can show, and with which helper."""

from driveends.behaviours.behaviours import Behaviour, check_behaviour
from driveends.behaviours.comparisons import first_outside
from driveends.errors import InvalidEnds
from driveends.operations.building import alone_at, common_at, common_bases, seen_at
from driveends.operations.operations import check_modulus_of, without_ends


def check_wish(part, goal):
    """Raise the first error of a part and a goal that applies."""
    check_behaviour(part)
    check_modulus_of(part, goal)
    if not all([end in part.ends for end in goal.ends]):
        raise InvalidEnds("an end of the goal is not an end of the part")


def helper_ends(part, goal):
    """The ends of the part that are not ends of the goal."""
    check_wish(part, goal)
    return without_ends(part, goal.ends)


def shown(part, goal, helper):
    """What the part shows with the helper on the ends of the goal."""
    free = helper_ends(part, goal)
    check_modulus_of(part, helper)
    if helper.ends != free:
        raise InvalidEnds("the ends of the helper are not the free ends in their order")
    return common_at((part, helper), part.ends, goal.ends)


def inner_bound(part, goal):
    """What the part shows with the least helper."""
    return alone_at(part, goal.ends)


def outer_bound(part, goal):
    """What the part shows with the greatest helper."""
    return seen_at(part, goal.ends)


def bounds(part, goal):
    """What the part shows with the least and with the greatest helper."""
    check_wish(part, goal)
    return (inner_bound(part, goal), outer_bound(part, goal))


def widest_helper(part, goal):
    """The helper of all rows with which the part can show rows of the goal."""
    free = helper_ends(part, goal)
    return common_at((part, goal), part.ends, free)


def wish(part, goal):
    """A paper with a helper that fulfils the wish, or that there is none."""
    check_wish(part, goal)
    record = first_outside(inner_bound(part, goal), goal)
    if record is not None:
        return ("inner", record)
    record = first_outside(goal, outer_bound(part, goal))
    if record is not None:
        return ("outer", record)
    return ("helper", widest_helper(part, goal))


def fulfils(part, goal, value):
    """Whether the value is a helper with which the part shows exactly the goal."""
    if not isinstance(value, Behaviour) or value.modulus != part.modulus:
        return False
    if value.ends != without_ends(part, goal.ends):
        return False
    generators, _ = common_bases(part.modulus, (part, value), part.ends, goal.ends)
    return generators == goal.settled_generators


def is_wish_paper(part, goal, value):
    """Whether the value is a wish paper."""
    check_wish(part, goal)
    if not isinstance(value, tuple) or len(value) != 2:
        return False
    if value[0] == "helper":
        return fulfils(part, goal, value[1])
    if value[0] == "inner":
        return value[1] in inner_bound(part, goal) and value[1] not in goal
    return value[0] == "outer" and value[1] in goal and value[1] not in outer_bound(part, goal)
