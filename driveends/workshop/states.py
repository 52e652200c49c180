"""What a workshop holds at one time, and how it has changed; a state itself never changes."""

from driveends.behaviours.behaviours import Behaviour


class Entry:
    """A diagram as defined, and expanded; its behaviour is found when it is asked for the first time."""

    def __init__(self, diagram, plain):
        self.diagram = diagram
        self.plain = plain
        self.found = None

    def __eq__(self, other):
        return isinstance(other, Entry) and self.diagram == other.diagram

    def shown_behaviour(self):
        """The behaviour of the expanded diagram."""
        if self.found is None:
            self.found = Behaviour.of(self.plain)
        return self.found


class State:
    """Dicts from the names of diagrams to entries, and from the names of runs to pairs (name of the diagram, run)."""

    def __init__(self, entries, held):
        self.entries = entries
        self.held = held

    def __eq__(self, other):
        return isinstance(other, State) and self.entries == other.entries and self.held == other.held

    def with_run(self, name, pair):
        """The state with this pair for a run, or without the run if the pair is None."""
        held = {one: self.held[one] for one in self.held if one != name}
        if pair is not None:
            held[name] = pair
        return State(self.entries, held)


class History:
    """All states from the empty one on, the undone ones too, and the position of the one in effect."""

    def __init__(self):
        self.now = State({}, {})
        self.at = 0
        self.states = [self.now]

    def change(self, state):
        """Make a new change; what was undone is gone."""
        # A new list, because trials keep the old one.
        self.states = self.states[:self.at + 1] + [state]
        self.at += 1
        self.now = state

    def move(self, at):
        """Go to the state at this position."""
        self.at = at
        self.now = self.states[at]


class Saved:
    """A history as it was when a trial began, and what the same trial had saved before."""

    def __init__(self, history, earlier):
        self.now = history.now
        self.at = history.at
        self.states = history.states
        self.earlier = earlier


class Trial:
    """For `with`: an error in the block sets the history back."""

    def __init__(self, history):
        self.history = history
        self.saved = None

    def __enter__(self):
        self.saved = Saved(self.history, self.saved)
        return self

    def __exit__(self, kind, value, trace):
        if kind is not None:
            self.history.now = self.saved.now
            self.history.at = self.saved.at
            self.history.states = self.saved.states
        self.saved = self.saved.earlier
