"""What several test files need. It computes by the words of the document and uses nothing of the package."""

import copy
from itertools import product

# Values that are nothing that a function of the package asks for, but for a few that the tests leave out.
ODD = (
    None, True, False, -1, 10 ** 40, "", "5", "A", "a\n~", (), ((),), (None,), (True,), [], ["a"], {}, {"a": 1}, {0: 0},
    (("a",),), [[[0]]], (((((((((0,),),),),),),),),),
)

# Small diagrams of many sorts.
SPECIAL = (
    # A delay that is seen a step later, rings that nothing drives, free lines, lines in no part, no ends, no parts.
    "2: Delay a b, Sum b -> a", "3: Delay a b, Delay b a -> a", "2: Delay a b, Delay b c, Delay c a -> a b",
    "2: Delay x y, Delay y x, Sum a x b -> a b", "3: Sum a b c -> a", "2: -> a b", "5: -> a", "3: Delay a b ->", "2: ->",
    "2: Sum a, Delay a b -> b", "2: Delay a a -> a", "3: Delay a x, Delay b x -> a b", "2: Delay a x, Delay a y, Sum x y z -> a z",
    "2: Delay a m, Delay m b -> a b", "3: Delay a m, Delay m b, Sum a b -> a", "2: Delay a m, Delay m b, Sum a m -> b",
    "5: Mix b a=2 c=3, Delay b c -> a b", "3: Mix b a=1 c=2, Delay b c -> c a b", "2: Sum a x y, Delay y x -> a",
    "2: Sum a x y, Delay y x, Sum b x z, Delay z x -> a b", "7: Times 0 a b, Delay b c -> a c", "2: Delay a b, Sum a b c -> c",
    "2: Delay a b, Delay b c, Sum a b d, Sum b c e -> d e", "2: Delay a b, Sum a b d, Sum b a a e -> d e",
    "3: Mix x a=1 y=2, Delay x y, Mix z x=1 y=1, Delay z b -> a b",
)


def all_vectors(modulus, width):
    """All vectors of this width, ascending."""
    return list(product(range(modulus), repeat=width))


def all_matrices(modulus, width, most):
    """All matrices of this width with at most so many vectors."""
    vectors = all_vectors(modulus, width)
    return [matrix for many in range(most + 1) for matrix in product(vectors, repeat=many)]


def all_columns(width):
    """All ascending tuples of positions, in ascending order."""
    subsets = [tuple(at for at in range(width) if mask >> at & 1) for mask in range(2 ** width)]
    return sorted(subsets)


def times(modulus, one, other):
    """The dot product."""
    return sum(one[at] * other[at] for at in range(len(one))) % modulus


def combine(modulus, width, vectors, factors):
    """The combination, entry by entry."""
    return tuple(sum(factors[k] * vectors[k][at] for k in range(len(vectors))) % modulus for at in range(width))


def span(modulus, width, vectors):
    """The set of all combinations."""
    factors = product(range(modulus), repeat=len(vectors))
    return frozenset(combine(modulus, width, vectors, some) for some in factors)


def is_reduced_by_words(matrix):
    """The definition of a reduced matrix, word by word, for a value that is a matrix."""
    pivots = []
    for vector in matrix:
        places = [at for at, entry in enumerate(vector) if entry]
        if not places or vector[places[0]] != 1:
            return False
        pivots.append(places[0])
    if pivots != sorted(set(pivots)):
        return False
    return all(matrix[k][pivots[j]] == 0 for j in range(len(pivots)) for k in range(len(matrix)) if k != j)


def dimension(modulus, vectors):
    """The dimension of a space that is given by the set of all its vectors."""
    many, size = 0, 1
    while size < len(vectors):
        many, size = many + 1, size * modulus
    return many


def pick(vector, columns):
    """The entries at these positions."""
    return tuple(vector[at] for at in columns)


def scrambled(modulus, width, many, seed=1):
    """A matrix without a plain pattern, the same one in every call."""
    rows, state = [], seed
    for _ in range(many):
        row = []
        for _ in range(width):
            state = (state * 1103515245 + 12345) % 2147483648
            row.append((state >> 16) % modulus)
        rows.append(tuple(row))
    return tuple(rows)


def unit(width, at):
    """The vector that is 1 at one position."""
    return tuple(int(k == at) for k in range(width))


class Numbers:
    """Numbers without a plain pattern, the same ones for the same seed."""

    def __init__(self, seed):
        self.state = seed

    def below(self, limit):
        """A number from 0 to limit - 1."""
        self.state = (self.state * 1103515245 + 12345) % 2147483648
        return (self.state >> 12) % limit

    def one_of(self, choices):
        """One of some values."""
        return choices[self.below(len(choices))]

    def some_of(self, choices, many):
        """So many values, each any one of these."""
        return [self.one_of(choices) for _ in range(many)]

    def record(self, modulus, width, length):
        """A record."""
        return tuple(tuple(self.below(modulus) for _ in range(width)) for _ in range(length))


def claims_of(text):
    """What the text of a part says: pairs of dicts, now and one step before, from lines to factors."""
    kind, *words = text.split(" ")
    sums = []
    if kind == "Sum":
        sums = [([(words[-1], 1)] + [(word, -1) for word in words[:-1]], [])]
    elif kind == "Times":
        sums = [([(words[2], 1), (words[1], -int(words[0]))], [])]
    elif kind == "Mix":
        pairs = [word.split("=") for word in words[1:]]
        sums = [([(words[0], 1)] + [(line, -int(factor)) for line, factor in pairs], [])]
    elif kind == "Delay":
        sums = [([(words[1], 1)], [(words[0], -1)])]
    elif kind == "Same":
        sums = [([(word, 1), (words[0], -1)], []) for word in words[1:]]
    found = []
    for both in sums:
        tables = ({}, {})
        for table, terms in zip(tables, both):
            for line, factor in terms:
                table[line] = table.get(line, 0) + factor
        found.append(tables)
    return found


def lengths_to_try(modulus, width, most, limit):
    """The lengths up to a greatest one for which there are not too many records."""
    return [length for length in range(most + 1) if modulus ** (width * length) <= limit]


def some_text(some):
    """The text of a small diagram without a plain pattern."""
    modulus = some.one_of((2, 2, 2, 3, 3, 5))
    letters = "abcdef"[:2 + some.below(5)]
    parts = []
    for _ in range(some.below(6)):
        kind = some.one_of(("Sum", "Times", "Mix", "Delay", "Delay", "Delay", "Same"))
        lines = some.some_of(letters, 1 + some.below(4))
        if kind == "Delay" and len([part for part in parts if part[0] == "Delay"]) == 3:
            continue
        if kind == "Mix":
            pairs = sorted((line, some.below(modulus)) for line in lines)
            lines = [some.one_of(letters)] + [f"{line}={factor}" for line, factor in pairs]
        elif kind in ("Times", "Delay"):
            lines = [str(some.below(modulus))] * (kind == "Times") + some.some_of(letters, 2)
        parts.append([kind] + lines)
    ends = list(letters) + ["z"]
    while ends and (len(ends) > 3 or some.below(3)):
        ends.remove(some.one_of(ends))
    if some.below(2):
        ends.reverse()
    words = [f"{modulus}:", ", ".join(" ".join(part) for part in parts), "->", " ".join(ends)]
    return " ".join(word for word in words if word)


def small_texts(many, seed):
    """The texts of the special diagrams, and of so many others."""
    some = Numbers(seed)
    return list(SPECIAL) + [some_text(some) for _ in range(many)]


class Wires:
    """A diagram, read from its text, with all rows that fit its lines, found by linear equations."""

    def __init__(self, text):
        head, _, body = text.partition(":")
        before, _, behind = body.partition("->")
        texts = [one for one in before.strip().split(", ") if one]
        self.modulus = int(head)
        self.ends = tuple(behind.split())
        self.claims = [claim for one in texts for claim in claims_of(one)]
        self.delays = len([one for one in texts if one.startswith("Delay")])
        self.lines = sorted({line for now, before in self.claims for line in (*now, *before)} | set(self.ends) | {
            word.split("=")[0] for one in texts for word in one.split(" ")[1:] if word[0].isalpha()
        })

    def rows(self, length, finite):
        """The span of the records of this length that are beginnings, or finite, as one long vector each."""
        first, last = -self.delays, length + self.delays
        places = [(time, line) for time in range(first, last) for line in self.lines]
        places = [place for place in places if not self.is_silent(place, length, finite)]
        at = {place: k for k, place in enumerate(places)}
        equations = []
        for time in range(first, last):
            for now, before in self.claims:
                row = [0] * len(places)
                for shift, table in ((0, now), (1, before)):
                    for line, factor in table.items():
                        if (time - shift, line) in at:
                            row[at[time - shift, line]] += factor
                equations.append(row)
        shown = [at.get((time, end)) for time in range(length) for end in self.ends]
        solutions = kernel(self.modulus, len(places), equations)
        return [tuple(0 if k is None else row[k] for k in shown) for row in solutions]

    def is_silent(self, place, length, finite):
        """Whether the line is an end that must be 0 at this time."""
        time, line = place
        return line in self.ends and (time < 0 or finite and time >= length)

    def records(self, length, finite=False):
        """The set of all records of this length that are beginnings, or finite."""
        width = len(self.ends)
        found = span(self.modulus, width * length, echelon(self.modulus, self.rows(length, finite)))
        return {tuple(row[k * width:(k + 1) * width] for k in range(length)) for row in found}


def echelon(modulus, vectors):
    """A basis of the span of some vectors, each with its first entry 1 and zeros there in the later ones."""
    basis = []
    left = [[entry % modulus for entry in vector] for vector in vectors]
    while left := [vector for vector in left if any(vector)]:
        pivot = min(next(k for k, entry in enumerate(vector) if entry) for vector in left)
        chosen = next(vector for vector in left if vector[pivot])
        unit_entry = pow(chosen[pivot], -1, modulus)
        chosen = [entry * unit_entry % modulus for entry in chosen]
        basis.append((pivot, chosen))
        left = [
            [(a - vector[pivot] * b) % modulus for a, b in zip(vector, chosen)] if vector[pivot] else vector for vector in left
        ]
    return [tuple(vector) for _, vector in basis]


def kernel(modulus, width, equations):
    """A basis of the vectors whose dot product with each equation is 0."""
    rows = [list(row) for row in echelon(modulus, equations)]
    pivots = [next(k for k, entry in enumerate(row) if entry) for row in rows]
    for k in range(len(rows) - 1, -1, -1):
        for j in range(k):
            factor = rows[j][pivots[k]]
            if factor:
                rows[j] = [(a - factor * b) % modulus for a, b in zip(rows[j], rows[k])]
    free = [at for at in range(width) if at not in pivots]
    found = []
    for at in free:
        vector = [0] * width
        vector[at] = 1
        for row, pivot in zip(rows, pivots):
            vector[pivot] = -row[at] % modulus
        found.append(tuple(vector))
    return found


def all_records(modulus, width, length):
    """All records of this length, ascending."""
    return list(product(all_vectors(modulus, width), repeat=length))


def caught(function, *arguments, **keywords):
    """The error that the call raises, or None. Arguments must not be changed by it."""
    before = copy.deepcopy(arguments)
    try:
        result = function(*arguments, **keywords)
        if hasattr(result, "__next__"):
            list(result)
    except Exception as error:  # the class is judged by the test
        found = error
    else:
        found = None
    if not same(before, arguments):
        raise AssertionError(f"{function.__name__} changed an argument")
    return found


def same(one, other):
    """Equality that tells True from 1, and compares other objects only by their classes."""
    if type(one) is not type(other):
        return False
    if isinstance(one, (tuple, list)):
        return len(one) == len(other) and all(same(a, b) for a, b in zip(one, other))
    if isinstance(one, dict):
        return same(list(one.items()), list(other.items()))
    if isinstance(one, (int, str)) or one is None:
        return one == other
    return True


def nested(depth, core):
    """The value in so many tuples."""
    for _ in range(depth):
        core = (core,)
    return core


def some_matrices(some, modulus, cells, drivers, others):
    """Four matrices of a machine: stay, enter, show, direct; many of their numbers are 0."""
    shapes = ((cells, cells), (drivers, cells), (cells, others), (drivers, others))
    return tuple(
        tuple(tuple(some.below(modulus) * some.below(2) for _ in range(width)) for _ in range(many)) for many, width in shapes
    )


def machine_text(modulus, drivers, others, matrices):
    """The text of a diagram that says what a machine does; cells and next cells get names of their own."""
    stay, enter, show, direct = matrices
    cells = ["cell" + "abcdefghijkl"[k] for k in range(len(stay))]
    following = ["next" + "abcdefghijkl"[k] for k in range(len(stay))]
    parts = [f"Delay {before} {after}" for before, after in zip(following, cells)]
    for targets, from_cells, from_drivers in ((following, stay, enter), (others, show, direct)):
        for at, target in enumerate(targets):
            terms = [(line, row[at]) for line, row in zip(cells, from_cells)]
            terms += [(line, row[at]) for line, row in zip(drivers, from_drivers)]
            parts.append(" ".join(["Mix", target] + [f"{line}={factor}" for line, factor in sorted(terms)]))
    return " ".join(word for word in (f"{modulus}:", ", ".join(parts), "->", *drivers, *others) if word)


def steps_of(modulus, matrices, inputs, cells=None):
    """What a machine shows for these inputs, and its cells behind them, by the words of [9.2]."""
    stay, enter, show, direct = matrices
    cells = [0] * len(stay) if cells is None else list(cells)
    found = []
    for numbers in inputs:
        found.append(tuple(
            (sum(c * row[at] for c, row in zip(cells, show)) + sum(u * row[at] for u, row in zip(numbers, direct))) % modulus
            for at in range(len(show[0]) if show else len(direct[0]) if direct else 0)
        ))
        cells = [
            (sum(c * row[at] for c, row in zip(cells, stay)) + sum(u * row[at] for u, row in zip(numbers, enter))) % modulus
            for at in range(len(stay))
        ]
    return tuple(found), cells


def padded(record, length, width):
    """The record with vectors of zeros behind it, up to this length."""
    return tuple(record) + ((0,) * width,) * (length - len(record))


def trimmed(record):
    """The record without the vectors of zeros at its end."""
    while record and not any(record[-1]):
        record = record[:-1]
    return tuple(record)


def sum_of_products(modulus, width, records, streams):
    """The sum of all records, each delayed by 0, 1 and so on with the factors of its stream ([5.2])."""
    length = max([len(record) + len(stream) for record, stream in zip(records, streams)], default=0)
    total = [[0] * width for _ in range(length)]
    for record, stream in zip(records, streams):
        for back, factor in enumerate(stream):
            for at, vector in enumerate(record):
                total[at + back] = [(one + factor * two) % modulus for one, two in zip(total[at + back], vector)]
    return trimmed(tuple(tuple(vector) for vector in total))


class Sketch:
    """A diagram as words, read from its text, to write other diagrams that say something about it."""

    def __init__(self, modulus, parts, ends):
        self.modulus = modulus
        self.parts = [list(part) for part in parts]
        self.ends = list(ends)

    @staticmethod
    def read(text):
        head, _, body = text.partition(":")
        before, _, behind = body.partition("->")
        return Sketch(int(head), [one.split(" ") for one in before.strip().split(", ") if one], behind.split())

    def text(self):
        """The text, with the pairs of each Mix in their order."""
        texts = []
        for kind, *words in self.parts:
            if kind == "Mix":
                pairs = sorted((line, int(factor)) for line, factor in [word.split("=") for word in words[1:]])
                words = words[:1] + [f"{line}={factor}" for line, factor in pairs]
            texts.append(" ".join([kind, *words]))
        return " ".join(word for word in (f"{self.modulus}:", ", ".join(texts), "->", *self.ends) if word)

    def lines(self):
        """All lines."""
        found = {word.split("=")[0] for kind, *words in self.parts for word in words[kind == "Use":]}
        return sorted({line for line in found if line[0].isalpha()} | set(self.ends))

    def renamed(self, names):
        """The sketch with other names for lines."""
        def new(word):
            line, mark, factor = word.partition("=")
            return names.get(line, line) + mark + factor

        parts = []
        for kind, *words in self.parts:
            kept = [kind] + words[:kind == "Use"]
            parts.append(kept + [new(word) for word in words[kind == "Use":]])
        return Sketch(self.modulus, parts, [names.get(end, end) for end in self.ends])

    def apart(self, letter):
        """The sketch with a letter in front of the names of all lines that are no ends."""
        return self.renamed({line: letter + line for line in self.lines() if line not in self.ends})

    def all_apart(self, letter):
        """The sketch with a letter in front of all names."""
        return self.renamed({line: letter + line for line in self.lines()})

    def with_parts(self, *parts, ends=None):
        """The sketch with more parts, and with these ends."""
        return Sketch(self.modulus, self.parts + [list(part) for part in parts], self.ends if ends is None else ends)


def sketches_by_modulus(many, seed, most_ends=3):
    """Lists of small sketches, each of one modulus."""
    found = {}
    for text in small_texts(many, seed):
        sketch = Sketch.read(text)
        if len(sketch.ends) <= most_ends:
            found.setdefault(sketch.modulus, []).append(sketch)
    return list(found.values())


def sketch_pairs(many, seed, most_ends=3):
    """Pairs of small sketches of one modulus."""
    some = Numbers(seed)
    groups = sketches_by_modulus(many, seed, most_ends)
    return [(one, some.one_of(group)) for group in groups for one in group]


def check_faults(test, function, names, good, faults, keywords=None):
    """Each fault alone raises its error, and of two faults the earlier one does.

    A fault is a tuple (name of the argument, bad value, class of the error, what it keeps), in the order of the checks.
    """
    for at, (name, bad, kind, kept) in enumerate(faults):
        tables = [{**good, name: bad}]
        tables += [{**good, later[0]: later[1], name: bad} for later in faults[at + 1:] if later[0] != name]
        for table in tables:
            error = caught(function, *[table[one] for one in names], **(keywords or {}))
            note = (function.__name__, name, bad, table)
            test.assertIs(type(error), kind, note)
            if vars(error):
                (value,) = vars(error).values()
                test.assertTrue(same(value, kept), (note, value, kept))
