"""[11.1] to [11.5]: driveends.operations.turned."""

import time
import unittest
from itertools import combinations

from driveends.behaviours.behaviours import Behaviour
from driveends.behaviours.comparisons import is_within
from driveends.depth.generators import least_generators
from driveends.diagrams.diagrams import Diagram
from driveends.diagrams.parts import Delay, Same, Sum, Use
from driveends.driving.driving import drives, driving_sets
from driveends.errors import InvalidBehaviour, InvalidDiagram, InvalidModulus, InvalidRecord
from driveends.operations.operations import meet, plus, renamed, reordered
from driveends.operations.turned import (
    are_orthogonal, dual, dual_diagram, product_gap, product_of, reversed_time, turned,
)
from tests.helper import (
    ODD, Numbers, Sketch, Wires, all_records, caught, check_faults, echelon, lengths_to_try, padded, same, sketch_pairs,
    small_texts,
)

ADD = Diagram(5, Sum("a", "b", "c"), ends=("a", "b", "c"))
LATE = Diagram(5, Delay("a", "b"), ends=("a", "b"))
KEEP = Diagram(5, Sum("a", "c", "b"), Delay("b", "c"), ends=("a", "b"))
A, L, K = Behaviour.of(ADD), Behaviour.of(LATE), Behaviour.of(KEEP)
NO_BEHAVIOURS = ODD + (KEEP, Sum("a"), "behaviour", (K,), 5, Behaviour)
NO_DIAGRAMS = ODD + (K, Sum("a"), "5: Delay a b -> a b", (KEEP,), 5, Diagram(5, Use("x", "a"), ends=("a",)))
NO_RECORDS = tuple(value for value in ODD if value != ()) + (
    [(1, 1)], ([1, 1],), ((1, 1), None), ((1, 1), (1,)), ((1, 5),), ((True, 1),), ((0, -1),), ((0, 0),) * 201, KEEP, 5,
)


def of(text):
    return Behaviour.of(Diagram.read(text))


def product_by_words(modulus, first, second):
    """[11.1]: the sum over all times s and all ends."""
    if not first or not second:
        return ()
    found = [0] * (len(first) + len(second) - 1)
    for s, one in enumerate(first):
        for t, other in enumerate(second):
            found[s + t] += sum(a * b for a, b in zip(one, other))
    return tuple(number % modulus for number in found)


def large_behaviours(seed):
    some = Numbers(seed)
    shapes = ((97, 4, 7), (2, 2, 13), (5, 3, 9), (97, 6, 5), (97, 1, 25))
    return [
        Behaviour.spanned(modulus, tuple("abcdefgh"), tuple(some.record(modulus, 8, length) for _ in range(rank)))
        for modulus, rank, length in shapes
    ]


class ExampleTests(unittest.TestCase):
    def test_examples(self):
        found = [
            product_of(5, ((1, 0), (0, 1)), ((0, 1), (4, 0))), product_of(5, ((1, 2),), ((3, 4), (1, 1))),
            product_of(5, (), ((1,),)),
        ]
        self.assertTrue(same(found, [(0, 0, 0), (1, 3), ()]))
        found = [dual(L).has(((0, 1), (4, 0))), dual(L).has(((4, 0), (0, 1))), dual(L).rank, dual(L).depth]
        self.assertTrue(same(found, [True, False, 1, 1]))
        found = [reversed_time(L).has(((0, 1), (1, 0))), reversed_time(L) == L, dual(dual(L)) == L]
        self.assertTrue(same(found, [True, False, True]))
        found = [product_gap(L, ((0, 1), (4, 0))), product_of(5, ((1, 1),), product_gap(L, ((1, 1),))) == (0, 0)]
        self.assertTrue(same(found, [None, False]))
        self.assertEqual(turned(KEEP), Diagram(5, Sum("a", "c", "b"), Delay("c", "b"), ends=("a", "b")))
        self.assertEqual(Behaviour.of(dual_diagram(KEEP)), dual(Behaviour.of(KEEP)))


class ProductTests(unittest.TestCase):
    def test_by_definition(self):
        some = Numbers(701)
        for _ in range(300):
            modulus, width = some.one_of((2, 3, 5, 97)), some.below(5)
            first = some.record(modulus, width, some.below(7))
            second = some.record(modulus, width, some.below(7))
            due = product_by_words(modulus, first, second)
            self.assertTrue(same(product_of(modulus, first, second), due))
            self.assertTrue(same(product_of(modulus, second, first), due))
            self.assertEqual(len(due), len(first) + len(second) - 1 if first and second else 0)

    def test_sums_multiples_delays_and_reverses(self):
        some = Numbers(702)
        for _ in range(100):
            modulus, width = some.one_of((2, 3, 97)), 1 + some.below(4)
            length, other = 1 + some.below(5), 1 + some.below(5)
            one, two, three = some.record(modulus, width, length), some.record(modulus, width, length), some.record(modulus, width, other)
            factor = some.below(modulus)
            total = tuple(tuple((factor * a + b) % modulus for a, b in zip(u, v)) for u, v in zip(one, two))
            products = zip(product_of(modulus, one, three), product_of(modulus, two, three))
            self.assertEqual(product_of(modulus, total, three), tuple((factor * a + b) % modulus for a, b in products))
            zeros = ((0,) * width,) * some.below(4)
            due = product_of(modulus, one, three)
            self.assertEqual(product_of(modulus, zeros + one, three), (0,) * len(zeros) + due)
            self.assertEqual(product_of(modulus, one, three + zeros), due + (0,) * len(zeros))
            self.assertEqual(product_of(modulus, one[::-1], three[::-1]), due[::-1])

    def test_edges(self):
        self.assertEqual(product_of(5, (), ()), ())
        self.assertEqual(product_of(5, ((), ()), ((),)), (0, 0))
        self.assertEqual(product_of(5, (), ((1, 2),) * 200), ())
        self.assertEqual(product_of(5, ((1, 2),), ()), ())
        some = Numbers(703)
        first, second = some.record(97, 8, 200), some.record(97, 8, 200)
        start = time.perf_counter()
        found = product_of(97, first, second)
        self.assertLess(time.perf_counter() - start, 2)
        self.assertEqual(found, product_by_words(97, first, second))

    def test_errors(self):
        good = {"modulus": 5, "first": ((1, 0),), "second": ((0, 1), (4, 0))}
        faults = [("modulus", value, InvalidModulus, None) for value in ODD + (0, 1, 4, 91, 98, 99, (5,))]
        no_records = NO_RECORDS + (((),) * 201, ((), (1,)), ((1,), ()), (None, (1, 1)), ("ab",), ((1, 1), "ab"))
        for name in ("first", "second"):
            faults += [(name, value, InvalidRecord, None) for value in no_records if value != ((),)]
        faults += [("second", value, InvalidRecord, None) for value in (((0,),), ((1, 1, 1),), ((), ()))]
        check_faults(self, product_of, ("modulus", "first", "second"), good, faults)
        self.assertIsNone(caught(product_of, 5, ((1, 0),), ()))
        self.assertIsNone(caught(product_of, 5, (), ((1, 0, 0),)))


class DualTests(unittest.TestCase):
    def test_all_records_of_small_behaviours(self):
        """A record is finite in the dual exactly if its products with all finite records are 0."""
        for text in small_texts(150, 704):
            behaviour = of(text)
            other = dual(behaviour)
            modulus, width = behaviour.modulus, len(behaviour)
            self.assertEqual((other.modulus, other.ends), (modulus, behaviour.ends))
            wires = Wires(text)
            for length in lengths_to_try(modulus, width, 3, 130):
                # Longer finite records than these are sums of delayed ones.
                known = wires.rows(behaviour.depth + 1, True)
                known = [tuple(row[k:k + width] for k in range(0, len(row), width)) for row in known] if width else []
                for record in all_records(modulus, width, length):
                    due = not any(any(product_by_words(modulus, record, one)) for one in known)
                    self.assertIs(other.has(record), due)
                    gap = product_gap(behaviour, record)
                    self.assertIs(gap is None, due)
                    if gap is not None:
                        self.assertIs(behaviour.has(gap), True)
                        self.assertTrue(any(product_by_words(modulus, record, gap)))
                        self.assertTrue(same(product_gap(behaviour, record), gap))

    def test_rank_depth_and_twice(self):
        for behaviour in [of(text) for text in small_texts(150, 705)] + large_behaviours(706):
            before = str(behaviour), least_generators(behaviour)
            other = dual(behaviour)
            self.assertEqual(other.rank, len(behaviour) - behaviour.rank)
            self.assertEqual(other.depth, behaviour.depth)
            self.assertEqual(dual(other), behaviour)
            self.assertIs(are_orthogonal(behaviour, other), True)
            self.assertEqual((str(behaviour), least_generators(behaviour)), before)
            for one in least_generators(behaviour):
                for two in least_generators(other):
                    self.assertFalse(any(product_by_words(behaviour.modulus, one, two)))
            sets = list(driving_sets(other))
            due = [tuple(end for end in behaviour.ends if end not in ends) for ends in driving_sets(behaviour)]
            self.assertEqual(sorted(sets), sorted(due))

    def test_within_and_sums(self):
        for one, other in sketch_pairs(80, 707):
            many = min(len(one.ends), len(other.ends))
            left = Sketch(one.modulus, one.parts, one.ends[:many])
            right = other.renamed({line: "q" + line for line in other.lines()})
            right = Sketch(one.modulus, right.parts, right.ends[:many]).renamed(
                {"q" + end: new for end, new in zip(other.ends[:many], one.ends)}
            )
            left, right = of(left.text()), of(right.text())
            self.assertIs(is_within(left, right), is_within(dual(right), dual(left)))
            self.assertIs(is_within(dual(plus(left, right)), dual(left)), True)
            self.assertEqual(dual(plus(left, right)), meet(dual(left), dual(right)))
            self.assertEqual(dual(meet(left, right)), plus(dual(left), dual(right)))
            due = is_within(right, dual(left))
            self.assertIs(are_orthogonal(left, right), due)
            self.assertIs(are_orthogonal(right, left), due)
            self.assertIs(are_orthogonal(left, meet(right, dual(left))), True)

    def test_edges(self):
        for ends in ((), ("a",), tuple("hgfedcba")):
            whole, silent = Behaviour.whole(97, ends), Behaviour.silent(97, ends)
            self.assertEqual((dual(whole), dual(silent)), (silent, whole))
            self.assertEqual((reversed_time(whole), reversed_time(silent)), (whole, silent))
            self.assertIs(are_orthogonal(whole, silent), True)
            self.assertIs(are_orthogonal(whole, whole), ends == ())
            record = ((0,) * len(ends),) * 200
            self.assertIsNone(product_gap(whole, record))
            if ends:
                gap = product_gap(whole, record[1:] + ((0,) * (len(ends) - 1) + (1,),))
                self.assertIs(whole.has(gap), True)
                self.assertIsNone(product_gap(silent, ((1,) * len(ends),)))

    def test_renamed_and_reordered(self):
        self.assertEqual(dual(renamed(K, a="z")), renamed(dual(K), a="z"))
        self.assertEqual(dual(reordered(K, ("b", "a"))), reordered(dual(K), ("b", "a")))

    def test_self_dual(self):
        pair = Behaviour.spanned(5, ("a", "b"), (((1, 2),),))
        self.assertEqual(dual(pair), pair)
        self.assertIs(are_orthogonal(pair, pair), True)
        self.assertIs(are_orthogonal(K, K), False)


class ReversedTests(unittest.TestCase):
    def test_reversed_finite_records(self):
        for text in small_texts(150, 708):
            behaviour = of(text)
            other = reversed_time(behaviour)
            modulus, width = behaviour.modulus, len(behaviour)
            self.assertEqual((other.modulus, other.ends), (modulus, behaviour.ends))
            wires = Wires(text)
            for length in lengths_to_try(modulus, width, 3, 130):
                due = {record[::-1] for record in wires.records(length, True)}
                for record in all_records(modulus, width, length):
                    self.assertIs(other.has(record), record in due)

    def test_rank_depth_driving_sets_and_duals(self):
        for behaviour in [of(text) for text in small_texts(150, 709)] + large_behaviours(710):
            modulus, width = behaviour.modulus, len(behaviour)
            other = reversed_time(behaviour)
            self.assertEqual((other.rank, other.depth), (behaviour.rank, behaviour.depth))
            self.assertEqual(reversed_time(other), behaviour)
            self.assertEqual(reversed_time(dual(behaviour)), dual(other))
            if width > 3:
                continue
            last = [one[-1] for one in least_generators(behaviour)]
            for many in range(width + 1):
                for columns in combinations(range(width), many):
                    rows = [tuple(vector[at] for at in columns) for vector in last]
                    due = many == len(last) == len(echelon(modulus, rows))
                    self.assertIs(drives(other, tuple(behaviour.ends[at] for at in columns)), due)

    def test_turned(self):
        for text in small_texts(150, 711):
            diagram = Diagram.read(text)
            other = turned(diagram)
            self.assertIs(type(other), Diagram)
            self.assertEqual((other.modulus, other.ends, len(other)), (diagram.modulus, diagram.ends, len(diagram)))
            for old, new in zip(diagram.parts, other.parts):
                self.assertEqual(new, Delay(*old.lines[::-1]) if old.kind == "Delay" else old)
            self.assertEqual(turned(other), diagram)
            self.assertEqual(Behaviour.of(other), reversed_time(Behaviour.of(diagram)))
            self.assertEqual(Diagram.read(text), diagram)

    def test_turned_at_the_limits(self):
        names = ["x" + "abcdefghijklmnopqrstuvwxyz"[k // 26] + "abcdefghijklmnopqrstuvwxyz"[k % 26] for k in range(60)]
        parts = [Delay(one, two) for one, two in zip(names[:12], names[1:13])]
        parts += [Same(one, two) for one, two in zip(names[12:40], names[13:41])]
        diagram = Diagram.of(97, tuple(parts), tuple(names[0:60:10]) + (names[12], names[59]))
        self.assertEqual(len(diagram), 40)
        self.assertEqual(turned(turned(diagram)), diagram)
        self.assertEqual(Behaviour.of(turned(diagram)), reversed_time(Behaviour.of(diagram)))


class DualDiagramTests(unittest.TestCase):
    def judge(self, diagram):
        found = dual_diagram(diagram)
        self.assertIs(type(found), Diagram)
        self.assertIs(found.is_plain, True)
        self.assertEqual((found.modulus, found.ends), (diagram.modulus, diagram.ends))
        self.assertLessEqual(found.delays, diagram.delays)
        self.assertEqual(Behaviour.of(found), dual(Behaviour.of(diagram)))
        self.assertEqual(Behaviour.of(dual_diagram(found)), Behaviour.of(diagram))
        self.assertEqual(Diagram.read(str(found)), found)
        self.assertEqual(dual_diagram(diagram), found)

    def test_small_diagrams(self):
        for text in small_texts(150, 712):
            self.judge(Diagram.read(text))

    def test_sixty_lines_twelve_delays_no_ends(self):
        letters = "abcdefghijklmnopqrstuvwxyz"
        names = ["x" + letters[k // 26] + letters[k % 26] for k in range(60)]
        ends = (names[0], names[12], names[24], names[36], names[47], names[48], names[58], names[59])
        chains = [Delay(one, two) for one, two in zip(names[:12], names[1:13])]
        same = [Same(*names[12:25]), Same(*names[25:37]), Sum(*names[36:50]), Sum(*names[49:60])]
        diagram = Diagram.of(97, tuple(chains + same), ends)
        self.assertEqual((len(diagram.lines), diagram.delays), (60, 12))
        start = time.perf_counter()
        self.judge(diagram)
        self.assertLess(time.perf_counter() - start, 4)
        self.judge(Diagram.of(97, tuple(chains + same), ()))
        self.judge(Diagram(2))
        self.judge(Diagram(2, ends=tuple("abcdefgh")))
        some = Numbers(713)
        for _ in range(5):
            lines = some.some_of(names, 24)
            parts = [Delay(one, two) for one, two in zip(lines[:12], lines[12:])]
            parts += [Sum(*some.some_of(names, 2 + some.below(20))) for _ in range(8 + some.below(20))]
            self.judge(Diagram.of(5, tuple(parts), ends))


class ErrorTests(unittest.TestCase):
    def test_one_behaviour(self):
        for value in NO_BEHAVIOURS:
            self.assertIs(type(caught(dual, value)), InvalidBehaviour)
            self.assertIs(type(caught(reversed_time, value)), InvalidBehaviour)
        faults = [("behaviour", value, InvalidBehaviour, None) for value in NO_BEHAVIOURS]
        faults += [("record", value, InvalidRecord, None) for value in NO_RECORDS + (((1,),), ((),), ((1, 1, 1),))]
        check_faults(self, product_gap, ("behaviour", "record"), {"behaviour": K, "record": ((1, 1),)}, faults)

    def test_two_behaviours(self):
        others = NO_BEHAVIOURS + (A, reordered(K, ("b", "a")), Behaviour.whole(3, ("a", "b")), renamed(K, a="c"))
        faults = [("one", value, InvalidBehaviour, None) for value in NO_BEHAVIOURS]
        faults += [("other", value, InvalidBehaviour, None) for value in others]
        check_faults(self, are_orthogonal, ("one", "other"), {"one": K, "other": L}, faults)

    def test_diagrams(self):
        for value in NO_DIAGRAMS:
            self.assertIs(type(caught(turned, value)), InvalidDiagram)
            self.assertIs(type(caught(dual_diagram, value)), InvalidDiagram)

    def test_long_records(self):
        self.assertIsNone(caught(product_gap, K, padded((), 200, 2)))
        self.assertIs(type(caught(product_gap, K, padded((), 201, 2))), InvalidRecord)


if __name__ == "__main__":
    unittest.main()
