"""What happens if a diagram is defined or exchanged: checks in their order, and the new state."""

from driveends.errors import Conflict, InvalidDiagram, TooLarge, UnknownName
from driveends.workshop.expansion import chain_length, needing, plain_diagrams, uses_in
from driveends.workshop.states import Entry, State


def check_uses(entries, diagram):
    """Raise UnknownName for the first use of a diagram that is not defined."""
    for part in uses_in(diagram):
        if part.used_name not in entries:
            raise UnknownName(part.used_name)


def check_network(diagrams, name):
    """Raise InvalidDiagram for a use with a wrong number of lines, or if the diagram would need itself."""
    for user in diagrams:
        for part in uses_in(diagrams[user]):
            if len(part.lines) != len(diagrams[part.used_name].ends):
                raise InvalidDiagram("a use has another number of lines than there are ends")
    if name in needing(diagrams, name):
        raise InvalidDiagram("the diagram would need itself")


def check_chains(diagrams, longest):
    """Raise TooLarge for a chain that is longer than this."""
    known = {}
    if max([chain_length(diagrams, name, known) for name in diagrams]) > longest:
        raise TooLarge(longest)


def check_ends_of_runs(state, name, diagram):
    """Raise Conflict with the first run of the diagram if its ends change."""
    if name not in state.entries or state.entries[name].diagram.ends == diagram.ends:
        return
    for run in sorted(list(state.held)):
        if state.held[run][0] == name:
            raise Conflict(run)


def new_entries(state, diagrams, names):
    """The entries with new ones for these names; an entry that would say the same stays."""
    entries = {name: state.entries[name] for name in state.entries}
    plain = plain_diagrams(diagrams, names)
    for name in names:
        entry = Entry(diagrams[name], plain[name])
        if name not in entries or entries[name] != entry or entries[name].plain != entry.plain:
            entries[name] = entry
    return entries


def exchanged(state, name, diagram, longest):
    """The state with this diagram, and the names of the runs that go on with another behaviour.

    No chain may be longer than the longest one.
    """
    check_uses(state.entries, diagram)
    diagrams = {one: state.entries[one].diagram for one in state.entries}
    diagrams[name] = diagram
    check_network(diagrams, name)
    check_chains(diagrams, longest)
    names = [name, *needing(diagrams, name)]
    entries = new_entries(state, diagrams, names)
    check_ends_of_runs(state, name, diagram)
    pairs, changed = {}, []
    for run in sorted(list(state.held)):
        used, old = state.held[run]
        behaviour = entries[used].shown_behaviour()
        if behaviour == old.behaviour:
            pairs[run] = (used, old)
        else:
            # This raises Impossible if the past is not possible any more.
            pairs[run] = (used, old.continued(behaviour))
            changed.append(run)
    return State(entries, pairs), tuple(changed)
