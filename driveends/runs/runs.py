"""Runs: behaviours step by step, with any driving set at each step."""

from driveends.behaviours.behaviours import check_behaviour, check_comparable
from driveends.behaviours.checks import first_break
from driveends.behaviours.comparisons import separating
from driveends.behaviours.steps import is_possible, offset_behind, predictors_of, sum_of_vectors
from driveends.driving.driving import answers, check_driving, check_ends, in_order
from driveends.errors import Impossible, InvalidNumber, InvalidOperation
from driveends.errors import InvalidVector, TooLarge, UnknownName
from driveends.numbers.arithmetic import combined
from driveends.numbers.numbers import are_numbers, check_number, check_vector_of, is_int
from driveends.numbers.records import check_record
from driveends.spaces.elimination import picked


class Run:
    """A past that can be continued."""

    MAX_STEPS = 200

    def __init__(self, behaviour):
        check_behaviour(behaviour)
        self._behaviour = behaviour
        self._past = []
        # The pivots of the first space are its first column basis.
        self._drivers = picked(behaviour.ends, [row.index(1) for row in behaviour.first_space])
        self._predictors = predictors_of(behaviour)

    @classmethod
    def replayed(cls, behaviour, record):
        """A run with this past."""
        check_behaviour(behaviour)
        check_record(behaviour.modulus, len(behaviour), record)
        time = first_break(behaviour.modulus, len(behaviour), behaviour.checks, record, len(record))
        if time is not None:
            raise Impossible(time)
        run = Run(behaviour)
        run._past = list(record)
        return run

    @property
    def behaviour(self):
        """The behaviour."""
        return self._behaviour

    @property
    def record(self):
        """The past."""
        return tuple(self._past)

    @property
    def drivers(self):
        """The driving set that is used by push."""
        return self._drivers

    @drivers.setter
    def drivers(self, value):
        check_ends(self._behaviour, value)
        check_driving(self._behaviour, value)
        self._drivers = in_order(self._behaviour, value)

    @property
    def steps(self):
        """The length of the past."""
        return len(self._past)

    @steps.setter
    def steps(self, value):
        if not is_int(value) or value < 0 or value > len(self._past):
            raise InvalidNumber(value)
        self._past = self._past[:value]

    def driven_by(self, ends):
        """Set the drivers and return them."""
        self.drivers = ends
        return self._drivers

    def back_to(self, count):
        """Remove the vectors behind so many, and return this number."""
        self.steps = count
        return len(self._past)

    def __len__(self):
        return len(self._past)

    def __str__(self):
        if not self._behaviour.ends:
            return f"{len(self._past)} steps"
        return f"{len(self._past)} steps of {', '.join(self._behaviour.ends)}"

    def __eq__(self, other):
        if not isinstance(other, Run):
            return False
        return self._behaviour == other._behaviour and self._past == other._past

    def _check_room(self):
        """Raise TooLarge if no vector can be added."""
        if len(self._past) >= Run.MAX_STEPS:
            raise TooLarge(Run.MAX_STEPS)

    def _offset(self):
        """The possible vector that is 0 at the pivots of the first space."""
        return offset_behind(self._behaviour, self._predictors, self._past)

    def _vector_with(self, ends, numbers):
        """The possible vector with these numbers at driving ends, which are in order."""
        behaviour, offset = self._behaviour, self._offset()
        shown = [offset[behaviour.ends.index(end)] for end in ends]
        missing = [(number - known) % behaviour.modulus for number, known in zip(numbers, shown)]
        added = combined(behaviour.modulus, len(behaviour), answers(behaviour, ends), missing)
        return sum_of_vectors(behaviour.modulus, offset, added)

    def step(self, **values):
        """Add the possible vector with these numbers, and return it."""
        return self.drive(values)

    def drive(self, values):
        """Add the possible vector with the numbers of a dict, and return it."""
        vector = self.expected(values)
        self._past.append(vector)
        return vector

    def expected(self, values):
        """The possible vector with the numbers of a dict."""
        if not isinstance(values, dict):
            raise InvalidOperation("the numbers are given by a dict")
        for name in values:
            if name not in self._behaviour.ends:
                raise UnknownName(name)
        ends = in_order(self._behaviour, values)
        check_driving(self._behaviour, ends)
        for number in values.values():
            check_number(self._behaviour.modulus, number)
        self._check_room()
        return self._vector_with(ends, [values[end] for end in ends])

    def push(self, *values):
        """Add the possible vector with these numbers at the drivers, and return it."""
        if len(values) != len(self._drivers):
            raise InvalidVector(f"there should be {len(self._drivers)} numbers, not {len(values)}")
        for number in values:
            check_number(self._behaviour.modulus, number)
        self._check_room()
        vector = self._vector_with(self._drivers, values)
        self._past.append(vector)
        return vector

    def options(self):
        """The offset and the first space of the possible vectors."""
        return (self._offset(), self._behaviour.first_space)

    def accepts(self, value):
        """Whether the value is a possible vector."""
        behaviour = self._behaviour
        if not are_numbers(behaviour.modulus, value) or len(value) != len(behaviour):
            return False
        return is_possible(behaviour, self._offset(), value)

    def take(self, vector):
        """Add a possible vector, and return the length of the past."""
        check_vector_of(self._behaviour.modulus, len(self._behaviour), vector)
        if not self.accepts(vector):
            raise Impossible(len(self._past))
        self._check_room()
        self._past.append(vector)
        return len(self._past)

    def rows(self):
        """Yield the vectors of the past."""
        past = tuple(self._past)
        for vector in past:
            yield vector

    def branch(self):
        """An independent run with the same behaviour, past and drivers."""
        run = Run(self._behaviour)
        run._past = list(self._past)
        run._drivers = self._drivers
        return run

    def continued(self, behaviour):
        """A run of another behaviour with the same past."""
        check_comparable(self._behaviour, behaviour)
        return Run.replayed(behaviour, self.record)

    def offsets(self, many):
        """So many vectors that can follow, each an offset."""
        past = list(self._past)
        for _ in range(many):
            past.append(offset_behind(self._behaviour, self._predictors, past))
        return tuple(past[len(self._past):])

    def refusal(self, record):
        """The position of the first vector of the record that cannot follow with those ahead of it, or None."""
        past = list(self._past)
        for at, vector in enumerate(record):
            if not is_possible(self._behaviour, offset_behind(self._behaviour, self._predictors, past), vector):
                return at
            past.append(vector)
        return None


def same_future(one, other):
    """None if the same records can follow both pasts, otherwise a shortest one that can follow one of them."""
    if not isinstance(one, Run) or not isinstance(other, Run):
        raise InvalidOperation("only runs have a future")
    check_comparable(one.behaviour, other.behaviour)
    # The sum of both depths plus one vectors are enough to tell two futures apart.
    path = one.offsets(one.behaviour.depth + other.behaviour.depth + 1)
    refused = other.refusal(path)
    parting = separating(one.behaviour, other.behaviour)
    if refused is not None and (parting is None or refused < len(parting)):
        return path[:refused + 1]
    if parting is None:
        return None
    # So far the path can follow both pasts, so with the parting record it can follow exactly one.
    modulus = one.behaviour.modulus
    return tuple([sum_of_vectors(modulus, vector, added) for vector, added in zip(path, parting)])
