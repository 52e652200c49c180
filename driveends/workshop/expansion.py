"""Diagrams with the parts of the diagrams that they use, without checks: all of these are defined.

A plain form is a pair (parts, ends). While a diagram is exchanged, forms can be larger than diagrams
may be, so they are counted before they are made.
"""

from driveends.diagrams.diagrams import Diagram
from driveends.diagrams.names import new_names
from driveends.errors import TooLarge


def uses_in(diagram):
    """The parts that use diagrams, in order."""
    return [part for part in diagram.parts if part.kind == "Use"]


def users_in(diagrams, name):
    """The names of the diagrams that use this one, ascending."""
    found = [one for one in diagrams if name in [part.used_name for part in uses_in(diagrams[one])]]
    return sorted(found)


def needing(diagrams, name):
    """The names of the diagrams that need this one, ascending."""
    found = {}
    waiting = [name]
    while waiting:
        used = waiting.pop()
        for user in users_in(diagrams, used):
            if user not in found:
                found[user] = True
                waiting.append(user)
    return sorted(list(found))


def chain_length(diagrams, name, known):
    """The length of the longest chain that begins with this diagram; the known ones are kept in a dict."""
    if name not in known:
        lengths = [chain_length(diagrams, part.used_name, known) for part in uses_in(diagrams[name])]
        known[name] = 1 + max(lengths, default=0)
    return known[name]


def count_parts(diagrams, name, known):
    """The number of parts of the expanded diagram; the known ones are kept in a dict."""
    if name not in known:
        uses = uses_in(diagrams[name])
        counts = [count_parts(diagrams, part.used_name, known) for part in uses]
        known[name] = len(diagrams[name]) - len(uses) + sum(counts)
    return known[name]


def lines_in(parts):
    """All lines of the parts, ascending."""
    return sorted(set([line for part in parts for line in part.lines]))


def plain_form(diagrams, name, known):
    """The plain form of the diagram; the known ones are kept in a dict."""
    if name not in known:
        uses = uses_in(diagrams[name])
        forms = {part.used_name: plain_form(diagrams, part.used_name, known) for part in uses}
        known[name] = (expanded_parts(diagrams[name], forms), diagrams[name].ends)
    return known[name]


def expanded_parts(diagram, forms):
    """The parts of the diagram, with those of a plain form in place of each use."""
    inner = {name: inner_lines(forms[name]) for name in forms}
    many = sum([len(inner[part.used_name]) for part in uses_in(diagram)])
    names = new_names(many, diagram.lines)
    found = []
    for part in diagram.parts:
        if part.kind != "Use":
            found.append(part)
            continue
        parts, ends = forms[part.used_name]
        own = inner[part.used_name]
        lines = dict(zip(own, names))
        names = names[len(own):]
        lines.update(dict(zip(ends, part.lines)))
        found.extend([one.with_lines([lines[line] for line in one.lines]) for one in parts])
    return tuple(found)


def inner_lines(form):
    """The lines of a plain form that are not its ends."""
    parts, ends = form
    return [line for line in lines_in(parts) if line not in ends]


def plain_diagrams(diagrams, names):
    """A dict of these diagrams, expanded in this order; the first one that is too large raises TooLarge."""
    counts, forms = {}, {}
    found = {}
    for name in names:
        # Forms with too many parts are not made: their number of parts can be enormous.
        if count_parts(diagrams, name, counts) > Diagram.MAX_PARTS:
            raise TooLarge(Diagram.MAX_PARTS)
        parts, ends = plain_form(diagrams, name, forms)
        found[name] = Diagram.of(diagrams[name].modulus, parts, ends)
    return found
