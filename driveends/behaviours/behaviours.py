"""Behaviours: what diagrams show at their ends."""

from driveends.behaviours.bases import both_bases
from driveends.behaviours.checks import checks_of, first_break, is_finite_record
from driveends.behaviours.relations import bases_of
from driveends.diagrams.diagrams import check_plain
from driveends.diagrams.names import check_distinct_names
from driveends.errors import InvalidBehaviour, InvalidRecord, TooLarge
from driveends.numbers.numbers import check_modulus
from driveends.numbers.records import check_record, is_record
from driveends.spaces.elimination import reduced_rows


class Behaviour:
    """The rows that fit together, for a modulus and ends."""

    MAX_ENDS = 8
    MAX_DEPTH = 24
    MAX_SPAN = 48
    MAX_LENGTH = 200

    def __init__(self, modulus, ends, generators, duals):
        self._modulus = modulus
        self._ends = ends
        self._generators = generators
        self._duals = duals
        self._checks = checks_of(duals)
        self._first_space = reduced_rows(modulus, [record[0] for record in generators])

    @classmethod
    def of(cls, diagram):
        """The behaviour of a plain diagram."""
        check_plain(diagram)
        generators, duals = bases_of(diagram)
        return Behaviour(diagram.modulus, diagram.ends, generators, duals)

    @classmethod
    def spanned(cls, modulus, ends, records):
        """The least behaviour in which these records are finite."""
        check_modulus(modulus)
        check_distinct_names(ends)
        check_records(modulus, len(ends), records)
        check_many_ends(ends)
        if sum([len(record) for record in records]) > Behaviour.MAX_SPAN:
            raise TooLarge(Behaviour.MAX_SPAN)
        generators, duals = both_bases(modulus, len(ends), records)
        behaviour = Behaviour(modulus, ends, generators, duals)
        if behaviour.depth > Behaviour.MAX_DEPTH:
            raise TooLarge(Behaviour.MAX_DEPTH)
        return behaviour

    @classmethod
    def whole(cls, modulus, ends):
        """The behaviour with all rows."""
        check_modulus(modulus)
        check_distinct_names(ends)
        check_many_ends(ends)
        duals, generators = both_bases(modulus, len(ends), ())
        return Behaviour(modulus, ends, generators, duals)

    @classmethod
    def silent(cls, modulus, ends):
        """The behaviour in which all streams are 0."""
        return Behaviour.spanned(modulus, ends, ())

    @property
    def modulus(self):
        """The modulus."""
        return self._modulus

    @property
    def ends(self):
        """The ends, in order."""
        return self._ends

    @property
    def rank(self):
        """The dimension of the first space."""
        return len(self._generators)

    @property
    def depth(self):
        """The number of cells that a machine for the behaviour needs."""
        return sum([len(record) - 1 for record in self._generators])

    @property
    def first_space(self):
        """The reduced matrix of the vectors with which rows begin."""
        return self._first_space

    @property
    def settled_generators(self):
        """Least generators, the same ones for equal behaviours."""
        return self._generators

    @property
    def settled_duals(self):
        """Least generators of the dual, the same ones for equal behaviours."""
        return self._duals

    @property
    def checks(self):
        """The checks by which records are judged."""
        return self._checks

    def __len__(self):
        return len(self._ends)

    def __str__(self):
        return f"behaviour of {len(self._ends)} ends, rank {self.rank}, depth {self.depth}"

    def __eq__(self, other):
        if not isinstance(other, Behaviour) or self._modulus != other._modulus:
            return False
        return self._ends == other._ends and self._generators == other._generators

    def __contains__(self, value):
        width = len(self._ends)
        if not is_record(self._modulus, width, value):
            return False
        return is_finite_record(self._modulus, width, self._checks, value)

    def begins(self, record):
        """Whether the record is a beginning."""
        return self.first_impossible(record) is None

    def first_impossible(self, record):
        """The first time at which the record, up to there, is no beginning, or None."""
        width = len(self._ends)
        check_record(self._modulus, width, record)
        return first_break(self._modulus, width, self._checks, record, len(record))

    def has(self, record):
        """Whether the record is finite in the behaviour."""
        width = len(self._ends)
        check_record(self._modulus, width, record)
        return is_finite_record(self._modulus, width, self._checks, record)


def check_many_ends(ends):
    """Raise TooLarge if these are more ends than behaviours have."""
    if len(ends) > Behaviour.MAX_ENDS:
        raise TooLarge(Behaviour.MAX_ENDS)


def check_records(modulus, width, records):
    """Raise InvalidRecord if this is not a tuple of records for so many ends."""
    if not isinstance(records, tuple):
        raise InvalidRecord("records are passed as a tuple")
    for record in records:
        check_record(modulus, width, record)


def check_behaviour(behaviour):
    """Raise InvalidBehaviour if this is not a behaviour."""
    if not isinstance(behaviour, Behaviour):
        raise InvalidBehaviour("this is not a behaviour")


def check_comparable(one, other):
    """Raise InvalidBehaviour if these are not two behaviours with the same modulus and ends."""
    check_behaviour(one)
    check_behaviour(other)
    if one.modulus != other.modulus or one.ends != other.ends:
        raise InvalidBehaviour("the behaviours have different moduli or ends")
