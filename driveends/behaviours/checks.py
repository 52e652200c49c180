"""Records that are judged by checks.

A check stems from a finite record of the dual: its vectors from the last one to the first one, in
one tuple. A record keeps a check at a time if the check, with its end laid at this time, has the
dot product 0 with it; ahead of a record and behind it there are zeros. The beginnings are the
records that keep all checks at their own times, and the finite records keep them also later.
"""


def checks_of(duals):
    """The checks that stem from these finite records of the dual."""
    return tuple([tuple([number for vector in record[::-1] for number in vector]) for record in duals])


def longest_of(checks):
    """The length of the longest check."""
    return max([len(check) for check in checks], default=0)


def sums_at_end(modulus, checks, flat):
    """For each check its dot product with the end of the flat record, which is at least as long."""
    ends = [flat[len(flat) - len(check):] for check in checks]
    return [
        sum([factor * number for factor, number in zip(check, end)]) % modulus
        for check, end in zip(checks, ends)
    ]


def first_break(modulus, width, checks, record, times):
    """The first of so many times from 0 at which the record does not keep a check, or None."""
    longest = longest_of(checks)
    # Before time 0 and behind the record there are zeros.
    flat = [0 for _ in range(longest)] + [number for vector in record for number in vector]
    flat = flat + [0 for _ in range((times - len(record)) * width)]
    for time in range(times):
        end = longest + (time + 1) * width
        if any(sums_at_end(modulus, checks, flat[end - longest:end])):
            return time
    return None


def is_finite_record(modulus, width, checks, record):
    """Whether the record keeps all checks at all times."""
    if width == 0:
        return True
    times = len(record) + longest_of(checks) // width
    return first_break(modulus, width, checks, record, times) is None
