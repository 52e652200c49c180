"""A workshop: named diagrams that use one another, and runs of them."""

from driveends.diagrams.diagrams import Diagram
from driveends.diagrams.names import check_name, is_name
from driveends.errors import Conflict, InvalidDiagram, InvalidNumber, TooLarge, UnknownName
from driveends.numbers.numbers import check_modulus, is_int
from driveends.runs.runs import Run
from driveends.workshop.exchange import exchanged
from driveends.workshop.expansion import users_in
from driveends.workshop.states import History, State, Trial


class Workshop:
    """Diagrams and runs under names, with all changes that were made."""

    MAX_DIAGRAMS = 20
    MAX_RUNS = 20
    MAX_CHAIN = 8

    def __init__(self, modulus):
        check_modulus(modulus)
        self._modulus = modulus
        self._history = History()

    def __len__(self):
        return len(self._history.now.entries)

    def __str__(self):
        return f"{len(self)} diagrams, {len(self._history.now.held)} runs, {self._history.at} changes"

    def __eq__(self, other):
        if not isinstance(other, Workshop) or self._modulus != other._modulus:
            return False
        return self._history.now == other._history.now

    def _entry(self, name):
        """The entry of the diagram with this name."""
        if not is_name(name) or name not in self._history.now.entries:
            raise UnknownName(name)
        return self._history.now.entries[name]

    def _held(self, run):
        """The pair of the run with this name."""
        if not is_name(run) or run not in self._history.now.held:
            raise UnknownName(run)
        return self._history.now.held[run]

    def _diagrams(self):
        """A dict of all diagrams."""
        entries = self._history.now.entries
        return {name: entries[name].diagram for name in entries}

    def define(self, name, *parts, ends=()):
        """Define or exchange a diagram, and return the names of the runs whose behaviour changes."""
        check_name(name)
        return self.put(name, Diagram.of(self._modulus, parts, ends))

    def put(self, name, diagram):
        """Define or exchange a diagram that is made already."""
        check_name(name)
        if not isinstance(diagram, Diagram) or diagram.modulus != self._modulus:
            raise InvalidDiagram("this is not a diagram of the modulus")
        state, changed = exchanged(self._history.now, name, diagram, Workshop.MAX_CHAIN)
        if len(state.entries) > Workshop.MAX_DIAGRAMS:
            raise TooLarge(Workshop.MAX_DIAGRAMS)
        self._history.change(state)
        return changed

    def remove(self, name):
        """Remove a diagram that nothing uses."""
        users = self.users(name)
        now = self._history.now
        in_use = [*users, *[run for run, used in self.runs() if used == name]]
        if in_use:
            raise Conflict(in_use[0])
        entries = {one: now.entries[one] for one in now.entries if one != name}
        self._history.change(State(entries, now.held))

    def names(self):
        """Yield the names of the diagrams."""
        for name in sorted(list(self._history.now.entries)):
            yield name

    def users(self, name):
        """The names of the diagrams that use this one."""
        self._entry(name)
        return tuple(users_in(self._diagrams(), name))

    def runs(self):
        """The pairs (name of a run, name of its diagram)."""
        held = self._history.now.held
        return tuple([(run, held[run][0]) for run in sorted(list(held))])

    def diagram_of(self, name):
        """The diagram as it was defined."""
        return self._entry(name).diagram

    def expanded(self, name):
        """The diagram with all parts of those that it needs."""
        return self._entry(name).plain

    def behaviour_of(self, name):
        """The behaviour of the expanded diagram."""
        return self._entry(name).shown_behaviour()

    def run_of(self, run):
        """A run of its own with the same past."""
        return self._held(run)[1].branch()

    def start(self, run, name):
        """Start a run of a diagram, and return the number of runs."""
        check_name(run)
        now = self._history.now
        if run in now.held:
            raise Conflict(run)
        behaviour = self.behaviour_of(name)
        if len(now.held) >= Workshop.MAX_RUNS:
            raise TooLarge(Workshop.MAX_RUNS)
        self._history.change(now.with_run(run, (name, Run(behaviour))))
        return len(now.held) + 1

    def drive(self, run, values):
        """Add a vector to a run, and return it."""
        name, old = self._held(run)
        new = old.branch()
        vector = new.drive(values)
        self._history.change(self._history.now.with_run(run, (name, new)))
        return vector

    def shorten(self, run, steps):
        """Keep only so many vectors of a run, and return how many were removed."""
        name, old = self._held(run)
        new = old.branch()
        left = new.back_to(steps)
        self._history.change(self._history.now.with_run(run, (name, new)))
        return old.steps - left

    def end(self, run):
        """End a run, and return how many vectors it had."""
        _, old = self._held(run)
        self._history.change(self._history.now.with_run(run, None))
        return old.steps

    def undo(self, *, many=1):
        """Undo the last changes, and return the number of changes in effect."""
        return self._move(many, -1, self._history.at)

    def redo(self, *, many=1):
        """Redo undone changes, and return the number of changes in effect."""
        return self._move(many, 1, len(self._history.states) - 1 - self._history.at)

    def _move(self, many, direction, limit):
        """Go so many changes forth or back, at most up to the limit."""
        if not is_int(many) or many < 0 or many > limit:
            raise InvalidNumber(many)
        self._history.move(self._history.at + direction * many)
        return self._history.at

    def trial(self):
        """For `with`: if the block raises an error, everything is as it was before."""
        return Trial(self._history)

    def attempt(self, action):
        """Call the action with the workshop in a trial, and return its result."""
        with self.trial():
            return action(self)
