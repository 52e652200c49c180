"""Bases of finite records, without checks: the arguments are known to be right.

All finite records of a behaviour are sums of multiples of a few delayed ones. Among the least
generators those are taken here that are settled: each has its leader, the first entry of its last
vector that is not 0; this entry is 1, the leaders are in different columns, and none of the others
can be taken off with its leader at an entry that is not 0. Equal behaviours have equal settled
generators. In between a record is flat, that is, one list of all its numbers.
"""

from driveends.numbers.arithmetic import inverse_of
from driveends.spaces.elimination import complement_rows, first_entry


def flat_record(record):
    """All numbers of the record in one list."""
    return [number for vector in record for number in vector]


def record_of(width, flat):
    """The record with these numbers."""
    return tuple([tuple(flat[start:start + width]) for start in range(0, len(flat), width)])


def trimmed(width, flat):
    """The flat record without the vectors of zeros at its end."""
    many = len(flat)
    while many and not any(flat[many - width:many]):
        many -= width
    return flat[:many]


def leader_of(width, flat):
    """The column of the leader."""
    return first_entry(flat[len(flat) - width:])


def with_leader_one(modulus, width, flat):
    """The multiple whose leader is 1."""
    leader = flat[len(flat) - width + leader_of(width, flat)]
    if leader == 1:
        return flat
    factor = inverse_of(modulus, leader)
    return [factor * number % modulus for number in flat]


def lessened(modulus, flat, factor, other, start):
    """The first list less the factor times the other one, which is laid on it from start on."""
    end = start + len(other)
    middle = [(number - factor * taken) % modulus for number, taken in zip(flat[start:end], other)]
    return flat[:start] + middle + flat[end:]


def leaders_of(modulus, width, flats):
    """A dict from columns to flat records with their leaders there, which have the same sums."""
    leaders = {}
    for flat in flats:
        left = trimmed(width, flat)
        while left:
            left = with_leader_one(modulus, width, left)
            column = leader_of(width, left)
            if column not in leaders:
                leaders[column] = left
                break
            shorter, longer = leaders[column], left
            if len(longer) < len(shorter):
                shorter, longer = longer, shorter
            leaders[column] = shorter
            start = len(longer) - len(shorter)
            left = trimmed(width, lessened(modulus, longer, 1, shorter, start))
    return leaders


def without_leaders(modulus, width, flat, taken):
    """The flat record less all that can be taken off, by pairs (column, flat record) with ascending columns."""
    for end in range(len(flat), 0, -width):
        for column, other in taken:
            factor = flat[end - width + column]
            if factor != 0 and len(other) <= end:
                flat = lessened(modulus, flat, factor, other, end - len(other))
    return flat


def settled(modulus, width, flats):
    """The settled generators, flat, of all sums of multiples of these records delayed."""
    leaders = leaders_of(modulus, width, flats)
    # What is taken off a record is shorter, or as long with a later leader.
    order = sorted([(len(leaders[column]), -column) for column in leaders])
    done = {}
    for _, negative in order:
        taken = [(column, done[column]) for column in sorted(list(done))]
        done[-negative] = without_leaders(modulus, width, leaders[-negative], taken)
    return [done[column] for _, column in sorted([(len(done[column]), column) for column in done])]


def settled_records(modulus, width, records):
    """The settled generators of all sums of multiples of these records delayed."""
    flats = settled(modulus, width, [flat_record(record) for record in records])
    return tuple([record_of(width, flat) for flat in flats])


def unit_list(width, column):
    """The flat record of the vector that is 1 at this column."""
    return [int(at == column) for at in range(width)]


def unit_products(width, flats, column):
    """The products of all records with the vector that is 1 at this column: time by time, one for each record."""
    longest = max([len(flat) for flat in flats])
    padded = [flat + [0 for _ in range(longest - len(flat))] for flat in flats]
    return [flat[at] for at in range(column, longest, width) for flat in padded]


def one_time(modulus, width, many, pairs):
    """The pairs (record, products) whose products at their first time have been made 0, without this time.

    For each of the records that are multiplied, a shortest one of those that have a product is taken
    off the others, and is delayed itself. So no shorter ones with the same products can exist.
    """
    for at in range(many):
        touched = [(len(pairs[k][0]), k) for k in range(len(pairs)) if pairs[k][1][at] != 0]
        if not touched:
            continue
        _, pivot = min(touched)
        flat, products = pairs[pivot]
        unit = inverse_of(modulus, products[at])
        for _, k in touched:
            other, others = pairs[k]
            factor = others[at] * unit % modulus
            other = lessened(modulus, other, factor, flat, 0)
            pairs[k] = (other, lessened(modulus, others, factor, products, 0))
        pairs[pivot] = ([0 for _ in range(width)] + flat, [0 for _ in range(many)] + products)
    return [(flat, products[many:]) for flat, products in pairs]


def orthogonal(modulus, width, flats):
    """The settled generators, flat, of all records whose products with these settled ones are 0."""
    many = len(flats)
    if all([len(flat) == width for flat in flats]):
        return [list(row) for row in complement_rows(modulus, width, tuple([tuple(flat) for flat in flats]))]
    pairs = [(unit_list(width, column), unit_products(width, flats, column)) for column in range(width)]
    found = []
    while len(found) < width - many:
        pairs = one_time(modulus, width, many, pairs)
        found.extend([flat for flat, products in pairs if not any(products)])
        pairs = [pair for pair in pairs if any(pair[1])]
    return settled(modulus, width, found)


def total_depth(width, flats):
    """The sum of the lengths, each less 1."""
    return sum([len(flat) // width - 1 for flat in flats])


def both_bases(modulus, width, records):
    """The settled generators of the behaviour that these records span, and those of its dual."""
    flats = settled(modulus, width, [flat_record(record) for record in records])
    duals = orthogonal(modulus, width, flats)
    # A behaviour and its dual have the same depth. Records that have more of it lack some delayed ones.
    if total_depth(width, flats) > total_depth(width, duals):
        flats = orthogonal(modulus, width, duals)
    generators = tuple([record_of(width, flat) for flat in flats])
    return generators, tuple([record_of(width, flat) for flat in duals])
