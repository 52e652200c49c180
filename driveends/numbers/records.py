"""What a record is: the values of some ends at the times 0, 1, 2 and so on."""

from driveends.errors import InvalidRecord
from driveends.numbers.numbers import are_numbers

MAX_RECORD = 200


def is_record(modulus, width, value):
    """Whether the value is a record for so many ends, for a modulus that is known to be one."""
    if not isinstance(value, tuple) or len(value) > MAX_RECORD:
        return False
    return all([are_numbers(modulus, vector) and len(vector) == width for vector in value])


def check_record(modulus, width, record):
    """Raise InvalidRecord if this is not a record for so many ends."""
    if not is_record(modulus, width, record):
        raise InvalidRecord(f"a record is a tuple of at most 200 vectors, here of length {width}")
