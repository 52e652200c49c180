"""Arithmetic modulo a prime, without checks: the arguments are known to be right."""


def inverse_of(modulus, number):
    """The number whose product with this one, which is not 0, is 1."""
    larger, smaller = modulus, number
    before, now = 0, 1
    # Euclid's algorithm: smaller is always number * now, up to multiples of the modulus.
    while smaller > 1:
        times = larger // smaller
        larger, smaller = smaller, larger - times * smaller
        before, now = now, before - times * now
    return now % modulus


def multiple(modulus, number, vector):
    """The vector with all entries multiplied by the number."""
    return tuple([number * entry % modulus for entry in vector])


def dot_product(modulus, one, other):
    """The sum of the products of the entries of two vectors of one length."""
    return sum([first * second for first, second in zip(one, other)]) % modulus


def columns_of(width, matrix):
    """The columns of a matrix; the width is needed because it may have no vectors."""
    return tuple([tuple([vector[at] for vector in matrix]) for at in range(width)])


def combined(modulus, width, vectors, factors):
    """The sum of factor times vector."""
    return tuple([dot_product(modulus, factors, column) for column in columns_of(width, vectors)])
