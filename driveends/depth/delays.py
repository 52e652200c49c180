"""From generators to a diagram, without checks: the depth is known to be small enough.

For each generator there is a line with its factors: what it is multiplied by, time by time. Delays
behind it keep the earlier factors, and each end is a mix of all these lines.
"""

from driveends.diagrams.diagrams import Diagram
from driveends.diagrams.names import new_names
from driveends.diagrams.parts import Delay, Mix


def held_lines(behaviour):
    """For each generator its line, and the lines of the delays behind it."""
    lengths = [len(one) for one in behaviour.settled_generators]
    names = new_names(sum(lengths), behaviour.ends)
    return [tuple(names[sum(lengths[:k]):sum(lengths[:k + 1])]) for k in range(len(lengths))]


def mix_at(behaviour, held, at):
    """The part that says what the end at this position is."""
    pairs = []
    for lines, generator in zip(held, behaviour.settled_generators):
        pairs.extend([(line, vector[at]) for line, vector in zip(lines, generator) if vector[at] != 0])
    return Mix.of(behaviour.ends[at], tuple(pairs))


def diagram_of(behaviour):
    """A plain diagram with this behaviour and as many delays as the depth."""
    held = held_lines(behaviour)
    delays = [Delay(before, after) for lines in held for before, after in zip(lines, lines[1:])]
    mixes = [mix_at(behaviour, held, at) for at in range(len(behaviour))]
    return Diagram.of(behaviour.modulus, tuple(delays + mixes), behaviour.ends)
