"""[0.11], [9.1]: driveends.depth.generators."""

import time
import unittest

from driveends.behaviours.behaviours import Behaviour
from driveends.depth.generators import are_generators, are_least, factors, least_generators
from driveends.diagrams.diagrams import Diagram
from driveends.diagrams.parts import Delay, Sum
from driveends.errors import InvalidBehaviour, InvalidGenerators, InvalidRecord
from tests.helper import (
    ODD, Numbers, caught, dimension, echelon, kernel, machine_text, padded, same, small_texts, some_matrices, span,
    steps_of, sum_of_products, trimmed,
)

KEEP = Diagram(5, Sum("a", "c", "b"), Delay("b", "c"), ends=("a", "b"))
keep = Behaviour.of(KEEP)
NO_BEHAVIOURS = ODD + (KEEP, Sum("a"), "behaviour", (keep,), 5, Behaviour)
DRIVERS, OTHERS = ("u", "v", "w", "t"), ("x", "y", "z")
# In this behaviour of depth 24, b is what a was twenty-four steps before.
FAR = Behaviour.spanned(3, ("a", "b"), (((1, 0),) + ((0, 0),) * 23 + ((0, 1),),))


def small_behaviours(many, seed):
    return [Behaviour.of(Diagram.read(text)) for text in small_texts(many, seed)]


def drawn_machines(many, seed):
    """Triples of a behaviour, how many drivers it has, and the matrices of the machine that says what it is."""
    some = Numbers(seed)
    found = []
    for _ in range(many):
        modulus, cells, drivers = some.one_of((2, 3, 5, 97)), some.below(5), 3 + some.below(2)
        matrices = some_matrices(some, modulus, cells, drivers, len(OTHERS))
        text = machine_text(modulus, DRIVERS[:drivers], OTHERS, matrices)
        found.append((Behaviour.of(Diagram.read(text)), drivers, matrices))
    return found


def is_shown(modulus, drivers, matrices, record):
    """Whether the machine shows the record, and nothing behind it."""
    more = padded(record, len(record) + len(matrices[0]) + 1, drivers + len(OTHERS))
    shown, _ = steps_of(modulus, matrices, [vector[:drivers] for vector in more])
    return shown == tuple(vector[drivers:] for vector in more)


def finite_dimension(modulus, drivers, matrices, length):
    """The dimension of the finite records of this length: inputs behind which the machine shows nothing."""
    cells = len(matrices[0])
    rows = []
    for time_of in range(length):
        for driver in range(drivers):
            inputs = [[0] * drivers for _ in range(length + cells)]
            inputs[time_of][driver] = 1
            shown, _ = steps_of(modulus, matrices, inputs)
            rows.append([number for vector in shown[length:] for number in vector])
    return length * drivers - len(echelon(modulus, rows))


def rank_of(modulus, vectors):
    return len(echelon(modulus, vectors))


def muddled(some, modulus, width, generators):
    """Other generators of the same behaviour: multiples, in another order, some added to others later."""
    found = list(generators)
    for _ in range(2 * len(found)):
        k, j = some.below(len(found)), some.below(len(found))
        if k == j:
            factor = 1 + some.below(modulus - 1)
            found[k] = tuple(tuple(factor * number % modulus for number in vector) for vector in found[k])
        elif some.below(2):
            found[k], found[j] = found[j], found[k]
        else:
            later = (0,) * some.below(4) + (some.below(modulus),)
            found[k] = sum_of_products(modulus, width, (found[k], found[j]), ((1,), later))
    return tuple(padded(one, len(one) + some.below(2) * some.below(3), width) for one in found)


class ExampleTests(unittest.TestCase):
    def test_examples(self):
        self.assertEqual([len(one) for one in least_generators(keep)], [2])
        found = [are_generators(keep, (((3, 3), (2, 0)),)), are_least(keep, (((1, 1), (0, 1), (4, 0)),))]
        self.assertTrue(same(found, [True, False]))
        self.assertTrue(same(factors(keep, (((1, 1), (4, 0)),), ((2, 2), (0, 2), (3, 0))), ((2, 2),)))


class LeastTests(unittest.TestCase):
    def judge(self, behaviour):
        found = least_generators(behaviour)
        modulus, width = behaviour.modulus, len(behaviour)
        self.assertEqual(len(found), behaviour.rank)
        self.assertIsInstance(found, tuple)
        self.assertTrue(all(record in behaviour and any(record[-1]) for record in found))
        self.assertEqual(rank_of(modulus, [record[0] for record in found]), behaviour.rank)
        self.assertEqual(rank_of(modulus, [record[-1] for record in found]), behaviour.rank)
        self.assertEqual(sum(len(record) - 1 for record in found), behaviour.depth)
        self.assertTrue(all(len(vector) == width for record in found for vector in record))
        self.assertIs(are_generators(behaviour, found), True)
        self.assertIs(are_least(behaviour, found), True)
        self.assertTrue(same(least_generators(behaviour), found))
        return found

    def test_behaviours_of_machines(self):
        for behaviour, drivers, matrices in drawn_machines(60, 301):
            found = self.judge(behaviour)
            self.assertEqual(behaviour.rank, drivers)
            self.assertLessEqual(behaviour.depth, len(matrices[0]))
            self.assertTrue(all(is_shown(behaviour.modulus, drivers, matrices, record) for record in found))
            for length in range(1, behaviour.depth + 3):
                due = sum(max(0, length - len(record) + 1) for record in found)
                self.assertEqual(finite_dimension(behaviour.modulus, drivers, matrices, length), due)

    def test_small_diagrams(self):
        for behaviour in small_behaviours(150, 302):
            self.judge(behaviour)

    def test_edges(self):
        for ends in ((), ("a",), tuple("abcdefgh")):
            self.assertEqual(self.judge(Behaviour.silent(97, ends)), ())
            self.assertEqual([len(one) for one in self.judge(Behaviour.whole(97, ends))], [1] * len(ends))
        self.assertEqual([len(one) for one in self.judge(FAR)], [25])
        some = Numbers(303)
        for rank, length in ((8, 3), (4, 7), (2, 13), (1, 25), (7, 4)):
            records = tuple(some.record(97, 8, length) for _ in range(rank))
            start = time.perf_counter()
            self.judge(Behaviour.spanned(97, tuple("abcdefgh"), records))
            self.assertLess(time.perf_counter() - start, 2)


class JudgeTests(unittest.TestCase):
    def test_other_generators(self):
        some = Numbers(304)
        behaviours = small_behaviours(100, 305) + [one for one, _, _ in drawn_machines(30, 306)] + [FAR]
        for behaviour in behaviours:
            least = least_generators(behaviour)
            if not least:
                continue
            modulus, width = behaviour.modulus, len(behaviour)
            for _ in range(4):
                value = muddled(some, modulus, width, least)
                self.assertIs(are_generators(behaviour, value), True)
                is_least = all(any(one[-1]) for one in value) and sum(len(one) - 1 for one in value) == behaviour.depth
                self.assertIs(are_least(behaviour, value), is_least)

    def spoilt(self, modulus, width, value):
        """Values that are no generators any more, whatever behaviour these generators are of."""
        zeros = (0,) * width
        yield value[1:]
        yield value[:-1]
        yield value + value[:1]
        yield value[1:] + value[1:2] + ((),) * (len(value) < 2)
        for k, one in enumerate(value):
            before, behind = value[:k], value[k + 1:]
            yield before + ((zeros,) + one,) + behind
            yield before + (sum_of_products(modulus, width, (one,), ((1, 1),)),) + behind
            yield before + (sum_of_products(modulus, width, (one,), ((modulus - 1, 0, 1),)),) + behind
            yield before + (one, one) + behind
            yield before + ((),) + behind
            yield before + (padded((), len(one), width),) + behind
            yield before + (list(one),) + behind
            yield before + ((list(one[0]),) + one[1:],) + behind
            if any(1 in vector for vector in one):
                yield before + (tuple(tuple(True if number == 1 else number for number in vector) for vector in one),) + behind
            if any(0 in vector for vector in one):
                yield before + (tuple(tuple(False if number == 0 else number for number in vector) for vector in one),) + behind
            yield before + ((one[0] + (0,),) + one[1:],) + behind
            yield before + ((tuple(number + modulus for number in one[0]),) + one[1:],) + behind
            yield before + (one + ((0,) * width,) * 200,) + behind
        if len(value) > 1:
            yield value[:1] * len(value)
            yield (sum_of_products(modulus, width, value, ((1,), (1,)) + ((),) * (len(value) - 2)),) * 2 + value[2:]
        yield list(value)
        yield {one: True for one in value}

    def test_spoilt_generators(self):
        some = Numbers(307)
        behaviours = small_behaviours(60, 308) + [one for one, _, _ in drawn_machines(20, 309)] + [FAR]
        for behaviour in behaviours:
            least = least_generators(behaviour)
            if not least:
                continue
            modulus, width = behaviour.modulus, len(behaviour)
            for value in (least, trimmed_all(muddled(some, modulus, width, least))):
                for bad in self.spoilt(modulus, width, value):
                    self.assertIs(are_generators(behaviour, bad), False, (behaviour.ends, value, bad))
                    self.assertIs(are_least(behaviour, bad), False)

    def test_true_for_one(self):
        value = (((True, 1), (4, 0)),)
        self.assertIs(are_generators(keep, value), False)
        self.assertIs(are_least(keep, value), False)
        self.assertIs(are_generators(keep, (((1, 1), (4, False)),)), False)

    def test_one_number_changed(self):
        for behaviour in [one for one, _, _ in drawn_machines(25, 310)] + [keep, FAR]:
            least = least_generators(behaviour)
            modulus = behaviour.modulus
            for k, one in enumerate(least):
                for at in range(len(one)):
                    for place in range(len(behaviour)):
                        vector = list(one[at])
                        vector[place] = (vector[place] + 1) % modulus
                        other = one[:at] + (tuple(vector),) + one[at + 1:]
                        value = least[:k] + (other,) + least[k + 1:]
                        right = other in behaviour and self.is_basis(behaviour, value)
                        self.assertIs(are_generators(behaviour, value), right)

    def is_basis(self, behaviour, value):
        """Whether all finite records up to some length are sums of these, by the dimensions."""
        modulus, width = behaviour.modulus, len(behaviour)
        least = least_generators(behaviour)
        more = sum(len(one) for one in value)
        length = max(len(one) for one in least) + more
        rows = []
        for one in value:
            for back in range(length - len(one) + 1 + more):
                rows.append([n for v in padded(((0,) * width,) * back + one, length + more, width) for n in v])
        due = [[n for v in padded(one, length + more, width) for n in v] for one in least]
        return rank_of(modulus, rows) == rank_of(modulus, rows + due) == len(rows)

    def test_judged_by_the_definition(self):
        """Many drawn tuples of finite records, most of which are no generators."""
        some = Numbers(311)
        seen = {True: 0, False: 0}
        for behaviour in small_behaviours(120, 312):
            modulus, width, least = behaviour.modulus, len(behaviour), least_generators(behaviour)
            if not least:
                continue
            for _ in range(3):
                streams = [[tuple(some.below(modulus) for _ in range(1 + some.below(3))) for _ in least] for _ in least]
                value = tuple(sum_of_products(modulus, width, least, one) for one in streams)
                right = all(value) and self.is_basis(behaviour, value)
                seen[right] += 1
                self.assertIs(are_generators(behaviour, value), right)
                last = all(value) and rank_of(modulus, [one[-1] for one in value]) == len(value)
                self.assertIs(are_least(behaviour, value), right and last)
        self.assertTrue(seen[True] > 20 and seen[False] > 20)

    def test_shortened_only_all_together(self):
        for modulus in (2, 3, 97):
            for many in (3, 4):
                ends = tuple("abcdefgh"[:many + 1])
                units = [tuple(int(at == k) for at in range(many + 1)) for k in range(many)]
                # The last vectors are the first unit vectors but one, and their sum: any but one of them are independent.
                lasts = units[1:] + [tuple(int(0 < at < many) for at in range(many + 1))]
                value = tuple((unit, last) for unit, last in zip(units, lasts))
                span_of = Behaviour.spanned(modulus, ends, value)
                self.assertLess(span_of.depth, many)
                self.assertIs(are_least(span_of, value), False)
                right = self.is_basis(span_of, value)
                self.assertIs(are_generators(span_of, value), right)
                for k in range(many):
                    some = value[:k] + value[k + 1:]
                    part = Behaviour.spanned(modulus, ends, some)
                    self.assertIs(are_least(part, some), part.depth == many - 1)

    def test_every_other_value(self):
        empty = (Behaviour.silent(5, ("a",)), Behaviour.silent(5, ()), Behaviour.whole(5, ()))
        for value in ODD + (5, KEEP, keep, "generators", ("a",), (((1, 1), (4, 0)), ())):
            for function in (are_generators, are_least):
                self.assertIs(function(keep, value), False)
                for behaviour in empty:
                    self.assertIs(function(behaviour, value), value == () and isinstance(value, tuple))

    def test_long_generators(self):
        some = Numbers(313)
        for modulus in (2, 97):
            behaviour = Behaviour.spanned(modulus, tuple("abcdefgh"), tuple(some.record(modulus, 8, 4) for _ in range(6)))
            least = list(least_generators(behaviour))
            for k in range(len(least) - 1):
                later = tuple(some.below(modulus) for _ in range(40 * (k + 1) % 170)) + (1,)
                least[k] = sum_of_products(modulus, 8, (least[k], least[k + 1]), ((1,), later))
            start = time.perf_counter()
            self.assertIs(are_generators(behaviour, tuple(least)), True)
            self.assertIs(are_least(behaviour, tuple(least)), False)
            record = sum_of_products(modulus, 8, least_generators(behaviour), [(1, 0, 1)] * len(least))
            found = factors(behaviour, tuple(least), record)
            self.assertEqual(sum_of_products(modulus, 8, least, found), record)
            self.assertLess(time.perf_counter() - start, 5)


def trimmed_all(value):
    return tuple(trimmed(one) for one in value)


class FactorTests(unittest.TestCase):
    def test_drawn_factors_come_back(self):
        some = Numbers(314)
        for behaviour in small_behaviours(100, 315) + [one for one, _, _ in drawn_machines(30, 316)] + [FAR]:
            modulus, width = behaviour.modulus, len(behaviour)
            least = least_generators(behaviour)
            for generators in (least, muddled(some, modulus, width, least)):
                streams = tuple(tuple(some.below(modulus) for _ in range(some.below(5))) for _ in least)
                record = sum_of_products(modulus, width, generators, streams)
                due = tuple(trimmed([(number,) for number in stream]) for stream in streams)
                due = tuple(tuple(number for (number,) in stream) for stream in due)
                self.assertTrue(same(factors(behaviour, generators, record), due))
                self.assertTrue(same(factors(behaviour, generators, padded(record, len(record) + 7, width)), due))
                self.assertTrue(same(factors(behaviour, generators, ()), ((),) * len(least)))

    def test_factors_that_reach_far_behind_the_record(self):
        first, second = ((1, 0),), ((0, 1),)
        whole = Behaviour.whole(3, ("a", "b"))
        one = first
        for _ in range(6):
            one = sum_of_products(3, 2, (one, second), ((1,), (0, 0, 0, 1)))
            second = sum_of_products(3, 2, (second, one), ((1,), (0, 2)))
        found = factors(whole, (one, second), ((1, 0),))
        self.assertEqual(sum_of_products(3, 2, (one, second), found), ((1, 0),))
        self.assertGreater(max(map(len, found)), 10)

    def test_without_generators(self):
        self.assertEqual(factors(Behaviour.silent(5, ("a", "b")), (), ()), ())
        self.assertEqual(factors(Behaviour.silent(5, ("a", "b")), (), ((0, 0),) * 200), ())
        self.assertEqual(factors(Behaviour.whole(5, ()), (), ((),) * 200), ())

    def test_every_finite_record_of_a_length(self):
        for behaviour in small_behaviours(40, 317):
            modulus, width = behaviour.modulus, len(behaviour)
            if modulus ** (3 * width) > 1000:
                continue
            least = least_generators(behaviour)
            rows = []
            for one in least:
                for back in range(3 - len(one) + 1):
                    rows.append(tuple(n for v in padded(((0,) * width,) * back + one, 3, width) for n in v))
            found = span(modulus, 3 * width, rows)
            for flat in found:
                record = tuple(flat[k:k + width] for k in range(0, 3 * width, width)) if width else ((),) * 3
                self.assertEqual(sum_of_products(modulus, width, least, factors(behaviour, least, record)), trimmed(record))
            self.assertEqual(dimension(modulus, found), len(rows))
            self.assertEqual(len(kernel(modulus, len(rows), list(zip(*rows)))), 0)


class ErrorTests(unittest.TestCase):
    def test_behaviour(self):
        for value in NO_BEHAVIOURS:
            self.assertIs(type(caught(least_generators, value)), InvalidBehaviour)
            for other in ((), None, (((1, 1), (4, 0)),)):
                self.assertIs(type(caught(are_generators, value, other)), InvalidBehaviour)
                self.assertIs(type(caught(are_least, value, other)), InvalidBehaviour)
                for record in ((), None, ((1,),)):
                    self.assertIs(type(caught(factors, value, other, record)), InvalidBehaviour)

    def test_generators_then_record(self):
        right = (((1, 1), (4, 0)),)
        no_generators = ODD + (((1, 1), (4, 0)), (((1, 1), (0, 1)),), right + right, (((0, 0), (1, 1), (4, 0)),), KEEP, keep)
        no_records = tuple(one for one in ODD if one != ()) + (
            ((1, 1),), ((1, 1), (4, 0), (0, 1)), ((1, 1), (4, True)), [(1, 1), (4, 0)], ((1, 1), [4, 0]), ((1, 1), (4, 0, 0)),
            ((1, 1), (4, 5)), ((0, 0),) * 201, keep, right,
        )
        for record in no_records:
            self.assertIs(type(caught(factors, keep, right, record)), InvalidRecord)
        for value in no_generators:
            for record in no_records[::3] + ((), ((1, 1), (4, 0))):
                self.assertIs(type(caught(factors, keep, value, record)), InvalidGenerators)

    def test_values_stay(self):
        value = [((1, 1), (4, 0))]
        caught(are_generators, keep, value)
        caught(are_least, keep, value)
        caught(factors, keep, value, [(1, 1)])
        self.assertEqual(value, [((1, 1), (4, 0))])
        self.assertEqual(least_generators(keep), least_generators(Behaviour.of(KEEP)))


if __name__ == "__main__":
    unittest.main()
