"""Records of plain diagrams: fillings and bars."""

from driveends.diagrams.diagrams import check_plain, equations
from driveends.diagrams.stretches import Stretch
from driveends.errors import TooLarge, UnknownName
from driveends.numbers.numbers import are_numbers, are_rows
from driveends.numbers.records import check_record

MAX_MOMENTS = 30


def check_question(diagram, record):
    """Raise the first error of a diagram and a record that applies."""
    check_plain(diagram)
    check_record(diagram.modulus, len(diagram.ends), record)
    if len(record) > MAX_MOMENTS:
        raise TooLarge(MAX_MOMENTS)


def filling(diagram, record, *, finite=False):
    """A paper with a filling of the record, or with a bar against it."""
    check_question(diagram, record)
    stretch = Stretch(diagram, record, finite)
    broken = stretch.broken_needs()
    if broken:
        return ("bar", stretch.multipliers(broken[0]))
    return ("filling", stretch.table())


def is_table(diagram, length, value):
    """Whether the value is a dict from each line of the diagram to so many numbers."""
    if not isinstance(value, dict) or len(value) != len(diagram.lines):
        return False
    if not all([line in value for line in diagram.lines]):
        return False
    return all([are_numbers(diagram.modulus, value[line]) and len(value[line]) == length for line in diagram.lines])


def shows(diagram, record, table, finite):
    """Whether the ends have the values of the record, and are 0 where they have to be."""
    many = diagram.delays
    last = many + len(record)
    for at, end in enumerate(diagram.ends):
        numbers = table[end]
        if any(numbers[:many]) or numbers[many:last] != tuple([vector[at] for vector in record]):
            return False
        if finite and any(numbers[last:]):
            return False
    return True


def holds(modulus, pair, table, length):
    """Whether the equation holds at all times of the stretch."""
    now, before = pair
    sums = [0 for _ in range(length)]
    for line, factor in now.items():
        sums = [total + factor * number for total, number in zip(sums, table[line])]
    for line, factor in before.items():
        # Before the stretch all lines are 0.
        sums = [total + factor * number for total, number in zip(sums, (0, *table[line]))]
    return not any([total % modulus for total in sums])


def is_filling(diagram, record, value, *, finite=False):
    """Whether the value is a filling of the record."""
    check_question(diagram, record)
    length = len(record) + 2 * diagram.delays
    if not is_table(diagram, length, value) or not shows(diagram, record, value, finite):
        return False
    return all([holds(diagram.modulus, pair, value, length) for pair in equations(diagram)])


def total_factors(diagram, pairs, multipliers):
    """For each line its total factors at the times of the stretch, and at the time before it as the last one."""
    modulus = diagram.modulus
    totals = {line: [0 for _ in range(len(multipliers) + 1)] for line in diagram.lines}
    for at, vector in enumerate(multipliers):
        for multiplier, (now, before) in zip(vector, pairs):
            if multiplier == 0:
                continue
            for line, factor in now.items():
                totals[line][at] = (totals[line][at] + multiplier * factor) % modulus
            for line, factor in before.items():
                totals[line][at - 1] = (totals[line][at - 1] + multiplier * factor) % modulus
    return {line: totals[line][:-1] for line in totals}


def is_bar(diagram, record, value, *, finite=False):
    """Whether the value is a bar against the record."""
    check_question(diagram, record)
    pairs = equations(diagram)
    many, last = diagram.delays, diagram.delays + len(record)
    if not are_rows(diagram.modulus, last + many, len(pairs), value):
        return False
    totals = total_factors(diagram, pairs, value)
    if any([any(totals[line]) for line in diagram.lines if line not in diagram.ends]):
        return False
    if not finite and any([any(totals[end][last:]) for end in diagram.ends]):
        return False
    # Elsewhere the ends are known to be 0, so only the times of the record count.
    sums = [
        factor * vector[at]
        for at, end in enumerate(diagram.ends)
        for factor, vector in zip(totals[end][many:last], record)
    ]
    return sum(sums) % diagram.modulus != 0


def moments(diagram, record, *lines, finite=False):
    """Yield the times of the stretch with the values of these lines in one filling."""
    check_question(diagram, record)
    for line in lines:
        if line not in diagram.lines:
            raise UnknownName(line)
    word, table = filling(diagram, record, finite=finite)
    if word == "filling":
        for at in range(len(record) + 2 * diagram.delays):
            yield (at - diagram.delays, tuple([table[line][at] for line in lines]))
