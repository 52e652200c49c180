"""[0.9] to [0.11], [0.13], [5.1] to [5.3]: driveends.behaviours.behaviours."""

import time
import unittest
from itertools import permutations

from driveends.behaviours.behaviours import Behaviour
from driveends.diagrams.diagrams import Diagram
from driveends.diagrams.parts import Delay, Mix, Same, Sum, Use
from driveends.errors import InvalidDiagram, InvalidEnds, InvalidModulus, InvalidRecord, TooLarge
from tests.helper import (
    ODD, SPECIAL, Numbers, Wires, all_records, caught, combine, echelon, is_reduced_by_words, lengths_to_try, same, small_texts,
    span, unit,
)

ADD = Diagram(5, Sum("a", "b", "c"), ends=("a", "b", "c"))
LATE = Diagram(5, Delay("a", "b"), ends=("a", "b"))
KEEP = Diagram(5, Sum("a", "c", "b"), Delay("b", "c"), ends=("a", "b"))


def small_diagrams(many, seed):
    """Diagrams that are special, and so many others."""
    return [Diagram.read(text) for text in small_texts(many, seed)]


def plus(modulus, one, other):
    """The sum of two records, the shorter one with zeros behind it."""
    length = max(len(one), len(other))
    width = len((one + other)[0]) if one + other else 0
    one, other = (record + ((0,) * width,) * (length - len(record)) for record in (one, other))
    return tuple(tuple((a + b) % modulus for a, b in zip(*pair)) for pair in zip(one, other))


def multiplied(modulus, number, record):
    return tuple(tuple(number * entry % modulus for entry in vector) for vector in record)


def finite_basis(behaviour, length):
    """A basis of the finite records of this length, by the dimension of what `has` accepts."""
    modulus, width = behaviour.modulus, len(behaviour)
    found = [record for record in all_records(modulus, width, length) if behaviour.has(record)]
    flat = echelon(modulus, [tuple(n for vector in record for n in vector) for record in found])
    return [tuple(row[k * width:(k + 1) * width] for k in range(length)) for row in flat]


class ExampleTests(unittest.TestCase):
    def test_examples(self):
        keep = Behaviour.of(KEEP)
        found = [keep.ends, keep.rank, keep.depth, keep.first_space, str(keep)]
        self.assertEqual(found, [("a", "b"), 1, 1, ((1, 1),), "behaviour of 2 ends, rank 1, depth 1"])
        keep = Behaviour.spanned(5, ("a", "b"), (((1, 1), (4, 0)),))
        found = [keep == Behaviour.of(KEEP), Behaviour.whole(5, ("a", "b")).rank, Behaviour.silent(5, ("a",)).first_space]
        self.assertEqual(found, [True, 2, ()])
        keep = Behaviour.of(KEEP)
        found = [
            keep.begins(((1, 1), (0, 1))), keep.first_impossible(((1, 1), (2, 2))), keep.has(((1, 1), (4, 0))), ((1, 1),) in keep,
        ]
        self.assertTrue(same(found, [True, 1, True, False]))
        self.assertIs(type(caught(keep.begins, ((1,),))), InvalidRecord)
        self.assertTrue(keep.begins(((1, 1), (2, 3))))

    def test_class_values(self):
        for holder in (Behaviour, Behaviour.of(KEEP)):
            found = (holder.MAX_ENDS, holder.MAX_DEPTH, holder.MAX_SPAN, holder.MAX_LENGTH)
            self.assertTrue(same(found, (8, 24, 48, 200)))


class FillingTests(unittest.TestCase):
    """Against all ways to fill the lines, which the helper finds by linear equations over lines and times."""

    def test_beginnings_and_finite_records(self):
        for diagram in small_diagrams(250, 3):
            behaviour = Behaviour.of(diagram)
            wires = Wires(str(diagram))
            self.assertEqual((behaviour.modulus, behaviour.ends), (wires.modulus, wires.ends))
            width = len(wires.ends)
            for length in lengths_to_try(wires.modulus, width, 4, 260):
                begun, finite = wires.records(length), wires.records(length, finite=True)
                for record in all_records(wires.modulus, width, length):
                    self.assertIs(behaviour.begins(record), record in begun, (str(diagram), record))
                    self.assertIs(behaviour.has(record), record in finite, (str(diagram), record))
                    self.assertIs(record in behaviour, record in finite)
                    found = behaviour.first_impossible(record)
                    self.assertEqual(found is None, record in begun)
                    if found is not None:
                        self.assertTrue(behaviour.begins(record[:found]))
                        self.assertFalse(behaviour.begins(record[:found + 1]))

    def test_first_space_rank_and_depth(self):
        for diagram in small_diagrams(250, 4):
            behaviour = Behaviour.of(diagram)
            wires = Wires(str(diagram))
            modulus, width = wires.modulus, len(wires.ends)
            self.assertTrue(is_reduced_by_words(behaviour.first_space))
            self.assertEqual({(vector,) for vector in span(modulus, width, behaviour.first_space)}, wires.records(1))
            self.assertEqual(behaviour.rank, len(behaviour.first_space))
            self.assertEqual(len(behaviour), width)
            times = diagram.delays + 1
            finite = len(echelon(modulus, wires.rows(times, finite=True)))
            self.assertEqual(behaviour.depth, behaviour.rank * times - finite, str(diagram))
            self.assertLessEqual(behaviour.depth, diagram.delays)
            self.assertEqual(str(behaviour), f"behaviour of {width} ends, rank {behaviour.rank}, depth {behaviour.depth}")

    def test_longer_records(self):
        some = Numbers(6)
        for diagram in small_diagrams(60, 5):
            behaviour = Behaviour.of(diagram)
            wires = Wires(str(diagram))
            modulus, width = wires.modulus, len(wires.ends)
            if width == 0:
                continue
            for finite in (False, True):
                rows = wires.rows(5, finite)
                rank = len(echelon(modulus, rows))
                for _ in range(6):
                    factors = tuple(some.below(modulus) for _ in rows)
                    flat = combine(modulus, 5 * width, rows, factors)
                    other = list(flat)
                    other[some.below(5 * width)] += 1
                    for one in (flat, [entry % modulus for entry in other]):
                        record = tuple(tuple(one[k * width:(k + 1) * width]) for k in range(5))
                        right = len(echelon(modulus, rows + [tuple(one)])) == rank
                        self.assertIs(behaviour.has(record) if finite else behaviour.begins(record), right, str(diagram))

    def test_depth_of_chains(self):
        for many in range(13):
            names = ["abcdefghijklm"[k] for k in range(many + 1)]
            chain = Diagram(3, *[Delay(names[k], names[k + 1]) for k in range(many)], ends=(names[0], names[-1])[:1 + (many > 0)])
            behaviour = Behaviour.of(chain)
            self.assertEqual(behaviour.depth, many)
            self.assertEqual(behaviour.rank, 1)
            if many:
                self.assertTrue(behaviour.has(((1, 0),) + ((0, 0),) * (many - 1) + ((0, 1),)))
                self.assertEqual(Behaviour.of(Diagram(3, *chain.parts, ends=(names[0],))), Behaviour.whole(3, ("a",)))
                ring = chain.with_part(Same(names[0], names[-1]))
                self.assertEqual(Behaviour.of(ring), Behaviour.silent(3, ring.ends))
        # A chain of twelve cells, of which some are seen.
        parts = [Delay("a" * k, "a" * (k + 1)) for k in range(1, 8)] + [Delay("aaaaaaaa", "b"), Delay("b", "bb")]
        parts += [Delay("bb" + "b" * k, "bbb" + "b" * k) for k in range(3)]
        factors = {"a": 1, "aaa": 2, "aaaaaaaa": 1, "bbbbb": 1}
        self.assertEqual(Behaviour.of(Diagram(5, *parts, Mix("c", **factors), ends=("a", "c"))).depth, 12)


class ClosureTests(unittest.TestCase):
    def test_sums_multiples_and_delays(self):
        some = Numbers(8)
        for diagram in small_diagrams(60, 9):
            behaviour = Behaviour.of(diagram)
            modulus, width = behaviour.modulus, len(behaviour)
            lengths = lengths_to_try(modulus, width, 3, 130)
            records = [record for length in lengths for record in all_records(modulus, width, length)]
            finite = [record for record in records if behaviour.has(record)]
            begun = [record for record in records if behaviour.begins(record)]
            self.assertIn((), finite)
            self.assertTrue(set(finite) <= set(begun))
            for _ in range(12):
                number, zeros = some.below(modulus), ((0,) * width,) * some.below(4)
                one, other = some.one_of(finite), some.one_of(finite)
                for record in (plus(modulus, one, other), multiplied(modulus, number, one), zeros + one, one + zeros):
                    self.assertTrue(behaviour.has(record))
                one = some.one_of(begun)
                other = some.one_of([record for record in begun if len(record) == len(one)])
                cut = some.below(len(one) + 1)
                for record in (plus(modulus, one, other), multiplied(modulus, number, one), zeros + one, one[:cut]):
                    self.assertTrue(behaviour.begins(record))

    def test_it_is_spanned_by_its_finite_records(self):
        for diagram in small_diagrams(60, 10):
            behaviour = Behaviour.of(diagram)
            length = diagram.delays + 1
            if behaviour.modulus ** (len(behaviour) * length) > 800:
                continue
            basis = finite_basis(behaviour, length)
            found = Behaviour.spanned(behaviour.modulus, behaviour.ends, tuple(basis))
            self.assertEqual(found, behaviour)
            self.assertTrue(same((found.rank, found.depth, found.first_space),
                                 (behaviour.rank, behaviour.depth, behaviour.first_space)))

    def test_one_within_another_of_the_same_rank_is_equal(self):
        for diagram in small_diagrams(80, 11):
            behaviour = Behaviour.of(diagram)
            for line in diagram.ends:
                smaller = Behaviour.of(diagram.with_part(Sum(line)))
                self.assertLessEqual(smaller.rank, behaviour.rank)
                self.assertEqual(smaller == behaviour, smaller.rank == behaviour.rank)


def spanning_diagram(modulus, ends, records):
    """A diagram whose ends are sums of these records, each multiplied by a stream."""
    letters = [a + b for a in "xyz" for b in "abcdefghijklmnopqrstuvwxyz"]
    parts, terms = [], {end: [] for end in ends}
    for record in records:
        line = letters.pop()
        for k, vector in enumerate(record):
            for end, factor in zip(ends, vector):
                terms[end].append((line, factor))
            if k + 1 < len(record):
                later = letters.pop()
                parts.append(Delay(line, later))
                line = later
    return Diagram(modulus, *parts, *[Mix.of(end, tuple(terms[end])) for end in ends], ends=ends)


class SpannedTests(unittest.TestCase):
    def test_against_the_diagram_with_streams(self):
        some = Numbers(12)
        for _ in range(250):
            modulus = some.one_of((2, 2, 3, 5, 97))
            ends = tuple("abcd"[:some.below(4)])
            records = [some.record(modulus, len(ends), some.below(4)) for _ in range(some.below(4))]
            if some.below(2):
                records = [multiplied(modulus, some.below(modulus), record) for record in records]
            if records and some.below(2):
                records.append(plus(modulus, records[0], ((0,) * len(ends),) + records[-1]))
            found = Behaviour.spanned(modulus, ends, tuple(records))
            self.assertEqual(found, Behaviour.of(spanning_diagram(modulus, ends, records)), records)
            for record in records:
                self.assertIn(record, found)
            zeros = ((0,) * len(ends),)
            for others in permutations(records[:3]):
                others = list(others) + records[3:]
                again = others + records[:1] + [zeros * 2 + record + zeros for record in others] + [(), zeros]
                self.assertEqual(Behaviour.spanned(modulus, ends, tuple(others)), found)
                self.assertEqual(Behaviour.spanned(modulus, ends, tuple(again)), found)

    def test_common_factors_are_divided_out(self):
        for record in (((1, 1), (1, 1)), ((1, 1), (0, 0), (4, 4)), ((0, 0), (2, 2)), ((3, 3),), ((1, 1), (1, 1), (1, 1))):
            found = Behaviour.spanned(5, ("a", "b"), (record,))
            self.assertEqual(found, Behaviour.of(Diagram(5, Same("a", "b"), ends=("a", "b"))))
            self.assertEqual(found.depth, 0)
        for many in range(1, 9):
            ends = tuple("abcdefgh"[:many])
            for length in (1, 2, 5):
                found = Behaviour.spanned(2, ends, (((1,) * many,) * length,))
                self.assertEqual(found, Behaviour.of(Diagram(2, Same(*ends), ends=ends)))
                self.assertEqual((found.rank, found.depth, found.has(((1,) * many,))), (1, 0, True))
        two = (((1, 0, 1), (0, 1, 0)), ((1, 0, 1), (0, 1, 1)))
        self.assertEqual(Behaviour.spanned(5, ("a", "b", "c"), two).depth, 1)

    def test_whole_and_silent(self):
        for modulus in (2, 5, 97):
            for ends in ((), ("a",), ("b", "a"), tuple("abcdefgh")):
                whole, silent = Behaviour.whole(modulus, ends), Behaviour.silent(modulus, ends)
                self.assertEqual((whole.rank, whole.depth, len(whole)), (len(ends), 0, len(ends)))
                self.assertEqual((silent.rank, silent.depth, len(silent)), (0, 0, len(ends)))
                self.assertEqual(whole.first_space, tuple(unit(len(ends), k) for k in range(len(ends))))
                self.assertTrue(same(silent.first_space, ()))
                self.assertEqual(whole, Behaviour.of(Diagram(modulus, ends=ends)))
                self.assertEqual(silent, Behaviour.of(Diagram(modulus, *[Sum(end) for end in ends], ends=ends)))
                self.assertEqual(silent, Behaviour.spanned(modulus, ends, ()))
                self.assertEqual(whole == silent, ends == ())
                record = Numbers(3).record(modulus, len(ends), 7) + ((1,) * len(ends),)
                self.assertTrue(whole.begins(record) and whole.has(record) and record in whole)
                self.assertIs(silent.begins(record), ends == ())
                self.assertTrue(silent.has(((0,) * len(ends),) * 200))


class EqualityTests(unittest.TestCase):
    def test_diagrams_that_are_written_otherwise(self):
        some = Numbers(14)
        for diagram in small_diagrams(100, 15):
            behaviour = Behaviour.of(diagram)
            free = "q" if "q" not in diagram.lines else "r"
            parts = list(diagram.parts)
            parts.reverse()
            changed = [
                Diagram.of(diagram.modulus, tuple(parts), diagram.ends),
                diagram.with_part(Sum(free)), diagram.with_part(Delay(free, free + free)),
                Diagram.of(diagram.modulus, diagram.parts * 2, diagram.ends) if diagram.delays < 7 else diagram,
                diagram.renamed_by({line: "q" + line for line in diagram.lines if line not in diagram.ends}),
            ]
            for line in diagram.ends:
                changed.append(diagram.renamed_by({line: "q"}).with_part(Same("q", line)))
                changed[-1] = Diagram.of(diagram.modulus, changed[-1].parts, diagram.ends)
            for other in changed:
                again = Behaviour.of(other)
                self.assertTrue(again == behaviour and behaviour == again, (str(diagram), str(other)))
                self.assertFalse(again != behaviour)
                self.assertEqual((again.first_space, again.depth), (behaviour.first_space, behaviour.depth))

    def test_equal_exactly_if_the_finite_records_are(self):
        diagrams = [one for one in small_diagrams(120, 16) if 1 <= len(one.ends) <= 2 and one.modulus == 2]
        groups = {}
        for diagram in diagrams:
            ends = {end: "ab"[k] for k, end in enumerate(diagram.ends)}
            spare = {line: "q" + line for line in diagram.lines if line not in ends}
            groups.setdefault(len(ends), []).append(diagram.renamed_by({**spare, **ends}))
        pairs = 0
        for group in groups.values():
            known = [(Behaviour.of(one), Wires(str(one)).records(4, finite=True)) for one in group]
            for one, finite in known:
                for other, others in known:
                    # Least generators of these behaviours have at most four vectors.
                    self.assertIs(one == other, finite == others)
                    pairs += finite == others
        self.assertGreater(pairs, 100)

    def test_other_moduli_ends_and_orders(self):
        keep = Behaviour.of(KEEP)
        for other in (
            KEEP.renamed(a="b", b="a"), KEEP.renamed(a="x"), Diagram(7, *KEEP.parts, ends=KEEP.ends), LATE, ADD,
            Diagram.of(5, KEEP.parts, ("b", "a")), Diagram.of(5, KEEP.parts, ("a",)), Diagram.of(5, KEEP.parts, ("a", "b", "c")),
            KEEP.with_part(Sum("a")), KEEP.without_part(0), KEEP.without_part(1), Diagram(5), Diagram(7),
        ):
            self.assertIs(keep == Behaviour.of(other), False)
            self.assertIs(Behaviour.of(other) == keep, False)
            self.assertIs(Behaviour.of(other) != keep, True)
        for one in (Behaviour.whole, Behaviour.silent):
            self.assertFalse(one(5, ("a", "b")) == one(5, ("b", "a")))
            self.assertFalse(one(5, ("a", "b")) == one(3, ("a", "b")))
            self.assertFalse(one(5, ("a", "b")) == one(5, ("a",)))

    def test_values_of_other_kinds(self):
        keep = Behaviour.of(KEEP)
        for value in ODD + (KEEP, str(keep), Sum("a"), keep.first_space, (keep,), [keep], Behaviour, 1):
            self.assertIs(keep == value, False)
            self.assertIs(value == keep, False)
            self.assertIs(keep != value, True)

    def test_in_with_values_of_every_kind(self):
        keep, empty = Behaviour.of(KEEP), Behaviour.silent(5, ())
        right = ((), ((0, 0),), ((1, 1), (4, 0)), ((0, 0), (2, 2), (3, 0)), ((0, 0),) * 200)
        for value in right:
            self.assertIs(value in keep, True)
        wrong = tuple(value for value in ODD if value != ()) + (
            KEEP, keep, Sum("a"), ((1, 1),), ((1, 1), (4, 0), (1, 0)), [(1, 1), (4, 0)], ([1, 1], [4, 0]), ((1, 1), (4, False)),
            ((True, 1), (4, 0)), ((1, 1), (-1, 0)), ((1, 1), (4, 5)), ((1, 1), (4, 0, 0)), ((1, 1), (4,)), (1, 1), "11",
            ((0, 0),) * 201, ((0, 0), None), {(1, 1): 0}, ((),), ((1, 1), (4, 0))[::-1], 0,
        )
        for value in wrong:
            self.assertIs(value in keep, False, value)
        for value, is_in in (((), True), (((),), True), (((),) * 200, True), (((),) * 201, False), (((0,),), False), ([], False)):
            self.assertIs(value in empty, is_in)

    def test_behaviours_do_not_change(self):
        keep = Behaviour.of(KEEP)
        for name in ("modulus", "ends", "rank", "depth", "first_space"):
            with self.assertRaises(AttributeError):
                setattr(keep, name, ())
        self.assertEqual(keep, Behaviour.of(KEEP))
        self.assertTrue(same((keep.modulus, keep.ends, keep.rank, keep.depth), (5, ("a", "b"), 1, 1)))


class ErrorTests(unittest.TestCase):
    NOT_MODULI = ODD + (0, 1, 4, 91, 98, 101, (5,), KEEP)
    NOT_ENDS = tuple(value for value in ODD if value != ()) + (["a"], ("a", "a"), ("A",), ("",), ("a", 1), "ab", KEEP)
    NOT_RECORDS = tuple(value for value in ODD if value != ()) + (
        [], [(1, 1)], ([1, 1],), ((1, 1), None), ((1, 1), (1,)), ((1, 1, 1),), ((),), ((1, 5),), ((1, -1),), ((True, 1),),
        ((1, None),), (1, 1), ((0, 0),) * 201, "ab", {(1, 1): 1}, ((("1", 1)),), (("1", 1),), KEEP, 7,
    )

    def raised(self, kind, function, *some):
        error = caught(function, *some)
        self.assertIs(type(error), kind, (function, some))
        return error

    def test_of(self):
        for value in ODD + (str(KEEP), Sum("a"), (KEEP,), Behaviour.of(KEEP), 5, Diagram(5, Use("a")), KEEP.with_part(Use("a", "b"))):
            self.raised(InvalidDiagram, Behaviour.of, value)

    def test_modulus_and_ends(self):
        for function in (Behaviour.whole, Behaviour.silent, lambda *some: Behaviour.spanned(*some, ())):
            for modulus in self.NOT_MODULI:
                self.raised(InvalidModulus, Behaviour.whole, modulus, ("a",))
                self.raised(InvalidModulus, Behaviour.silent, modulus, None)
                self.raised(InvalidModulus, Behaviour.spanned, modulus, None, None)
            for ends in self.NOT_ENDS:
                self.raised(InvalidEnds, Behaviour.whole, 5, ends)
                self.raised(InvalidEnds, Behaviour.silent, 5, ends)
                self.raised(InvalidEnds, Behaviour.spanned, 5, ends, None)
        self.raised(InvalidEnds, Behaviour.spanned, 5, tuple("abcdefgha"), None)

    def test_records(self):
        keep = Behaviour.of(KEEP)
        for value in self.NOT_RECORDS:
            for method in (keep.begins, keep.first_impossible, keep.has):
                self.raised(InvalidRecord, method, value)
            self.raised(InvalidRecord, Behaviour.spanned, 5, ("a", "b"), (value,))
            self.raised(InvalidRecord, Behaviour.spanned, 5, ("a", "b"), (((1, 1),) * 49, value))
            if not (isinstance(value, tuple) and all(item == () for item in value)):
                self.raised(InvalidRecord, Behaviour.spanned, 5, ("a", "b"), value)
        self.raised(InvalidRecord, Behaviour.spanned, 5, tuple("abcdefghi"), (((0,) * 8,),))
        self.raised(InvalidRecord, Behaviour.spanned, 5, (), (((0,),),))

    def test_limits(self):
        nine = tuple("abcdefghi")
        for function in (Behaviour.whole, Behaviour.silent, lambda *some: Behaviour.spanned(*some, (((0,) * 9,) * 49,))):
            self.assertEqual(self.named(TooLarge, function, 5, nine).limit, 8)
            self.assertEqual(len(Behaviour.whole(5, nine[:8])), 8)
        zeros = ((0, 0),)
        self.assertEqual(Behaviour.spanned(5, ("a", "b"), (zeros * 48,)), Behaviour.silent(5, ("a", "b")))
        self.assertEqual(Behaviour.spanned(5, ("a", "b"), (zeros * 20, ()) * 2 + (zeros,) * 8).rank, 0)
        for records in ((zeros * 49,), (zeros * 24, zeros * 25), (zeros,) * 49, (((1, 0),) + zeros * 25 + ((0, 1),), zeros * 22)):
            self.assertEqual(self.raised(TooLarge, Behaviour.spanned, 5, ("a", "b"), records).limit, 48)
        for length in (24, 25):
            record = ((1, 0),) + zeros * (length - 1) + ((0, 1),)
            if length == 24:
                self.assertEqual(Behaviour.spanned(5, ("a", "b"), (record,)).depth, 24)
            else:
                self.assertEqual(self.raised(TooLarge, Behaviour.spanned, 5, ("a", "b"), (record,)).limit, 24)
        half = ((1, 0, 0, 0),) + ((0,) * 4,) * 11 + ((0, 1, 0, 0),)
        other = ((0, 0, 1, 0),) + ((0,) * 4,) * 11 + ((0, 0, 0, 1),)
        self.assertEqual(Behaviour.spanned(5, tuple("abcd"), (half, other)).depth, 24)
        longer = other[:1] + other[1:2] + other[1:]
        self.assertEqual(self.raised(TooLarge, Behaviour.spanned, 5, tuple("abcd"), (half, longer)).limit, 24)

    def named(self, kind, function, *some):
        with self.assertRaises(kind) as held:
            function(*some)
        self.assertIs(type(held.exception), kind)
        return held.exception

    def test_records_of_200_vectors(self):
        keep = Behaviour.of(KEEP)
        record = ((1, 1),) + ((0, 1),) * 199
        self.assertTrue(keep.begins(record))
        self.assertFalse(keep.has(record))
        self.assertTrue(keep.has(record[:199] + ((4, 0),)))
        self.assertEqual(keep.first_impossible(record[:199] + ((0, 0),)), 199)
        for method in (keep.begins, keep.first_impossible, keep.has):
            self.raised(InvalidRecord, method, record + ((0, 1),))
        self.assertFalse(record + ((4, 0),) in keep)


class LargestTests(unittest.TestCase):
    """Each within a few seconds: a part of this is asked of all together."""

    def setUp(self):
        self.start = time.perf_counter()

    def tearDown(self):
        self.assertLess(time.perf_counter() - self.start, 5)

    def test_sixty_lines(self):
        lines = ["abcdefghijklmnopqrstuvwxyz"[k % 26] * (k // 26 + 1) for k in range(60)]
        ends = tuple(lines[:8])
        delays = [Delay(lines[k], lines[k + 20]) for k in range(12)]
        for parts in (
            delays + [Same(*lines)] * 28, delays + [Sum(*lines[k:], *lines[:k]) for k in range(28)],
            delays + [Mix(lines[59 - k], **{lines[j]: (j * j + 3 * k * j + k) % 97 for j in range(55)}) for k in range(28)],
            delays + [Mix(lines[30 + k], **{lines[j]: (j * j + 3 * k * j + k) % 97 for j in range(30)}) for k in range(28)],
            [Sum(lines[k], lines[k + 1], lines[k + 2]) for k in range(40)],
        ):
            behaviour = Behaviour.of(Diagram(97, *parts, ends=ends))
            self.assertLessEqual(behaviour.depth, 12)
            self.assertTrue(behaviour.has(((0,) * 8,) * 200))

    def test_twelve_delays_and_eight_ends(self):
        some = Numbers(20)
        for ranks in (1, 3, 4, 6, 7):
            lines = ["s" + letter for letter in "abcdefghijkl"]
            later = ["t" + letter for letter in "abcdefghijkl"]
            inputs = tuple("abcdefgh"[:ranks])
            outputs = tuple("abcdefgh"[ranks:])
            mixes = [Mix(line, **{one: some.below(97) for one in (*later, *inputs)}) for line in (*lines, *outputs)]
            diagram = Diagram(97, *[Delay(one, two) for one, two in zip(lines, later)], *mixes, ends=inputs + outputs)
            behaviour = Behaviour.of(diagram)
            self.assertEqual((behaviour.rank, behaviour.depth), (ranks, 12))
            record = some.record(97, 8, 200)
            self.assertEqual(behaviour.first_impossible(record), 0)
            self.assertFalse(behaviour.has(record))

    def test_a_span_of_48(self):
        some = Numbers(21)
        ends = tuple("abcdefgh")
        for lengths in ((24, 24), (12, 12, 12, 12), (48,), (6,) * 8, (1,) * 48, (16, 16, 16), (8,) * 6):
            records = tuple(some.record(97, 8, length) for length in lengths)
            error = caught(Behaviour.spanned, 97, ends, records)
            if sum(lengths) - len(lengths) > 24 and len(lengths) < 8:
                self.assertEqual(error.limit, 24)
            else:
                self.assertIsNone(error)
        records = tuple(some.record(97, 8, 5) for _ in range(6))
        behaviour = Behaviour.spanned(97, ends, records)
        self.assertEqual((behaviour.rank, behaviour.depth), (6, 24))
        for record in records:
            self.assertTrue(record in behaviour)

    def test_small_ones_are_asked_often(self):
        for _ in range(300):
            self.assertEqual(Behaviour.of(KEEP).rank, 1)
            Behaviour.of(Diagram.read(SPECIAL[-2])).begins(((1, 0), (0, 1)))


if __name__ == "__main__":
    unittest.main()
