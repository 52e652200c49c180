"""[10.1] to [10.3]: driveends.operations.operations."""

import time
import unittest

from driveends.behaviours.behaviours import Behaviour
from driveends.behaviours.comparisons import is_within
from driveends.diagrams.diagrams import Diagram
from driveends.diagrams.parts import Delay, Sum
from driveends.driving.driving import driving_sets
from driveends.errors import Conflict, InvalidBehaviour, InvalidEnds, InvalidName, TooLarge, UnknownName
from driveends.operations.operations import (
    beside, beside_all, held, hidden, joined, meet, plus, renamed, renamed_by, reordered, tied, tied_all,
)
from tests.helper import (
    ODD, Numbers, Sketch, Wires, all_records, caught, check_faults, lengths_to_try, same, sketch_pairs, sketches_by_modulus,
    small_texts,
)

ADD = Diagram(5, Sum("a", "b", "c"), ends=("a", "b", "c"))
LATE = Diagram(5, Delay("a", "b"), ends=("a", "b"))
KEEP = Diagram(5, Sum("a", "c", "b"), Delay("b", "c"), ends=("a", "b"))
A, L, K = Behaviour.of(ADD), Behaviour.of(LATE), Behaviour.of(KEEP)
NO_BEHAVIOURS = ODD + (KEEP, Sum("a"), "behaviour", (K,), 5, Behaviour)
NO_TUPLES = tuple(value for value in ODD if value != ()) + (
    "ab", ["a"], ("a", "a"), ("z",), ("a", "z"), ("A",), ("a", None), (("a",),), {"a": 1}, KEEP, K, 5,
)


def of(sketch):
    return Behaviour.of(Diagram.read(sketch.text()))


def state_of(behaviour):
    return behaviour.modulus, behaviour.ends, behaviour.settled_generators, behaviour.settled_duals, str(behaviour)


def far(depth, ends=("a", "b"), modulus=5):
    """The behaviour in which the last of these ends is what the first one was so many steps before; others are 0."""
    width = len(ends)
    first = (1,) + (0,) * (width - 1)
    return Behaviour.spanned(modulus, ends, ((first,) + ((0,) * width,) * (depth - 1) + (first[::-1],),))


def zero(end):
    return ["Sum", end]


def subsets(some, ends):
    """A few tuples of ends, in any order: none, all, and two others."""
    found = [(), tuple(ends), tuple(ends[::-1])]
    for _ in range(2):
        chosen = [end for end in ends if some.below(2)]
        if some.below(2):
            chosen.reverse()
        found.append(tuple(chosen))
    return found


class JudgeCase(unittest.TestCase):
    def judge(self, result, sketch, records=True):
        """The result must be the behaviour of the diagram, also by linear equations over all its lines."""
        self.assertIs(type(result), Behaviour)
        self.assertEqual(result.ends, tuple(sketch.ends))
        self.assertEqual(result, of(sketch), sketch.text())
        self.assertTrue(same(state_of(result), state_of(of(sketch))))
        if records:
            wires = Wires(sketch.text())
            for length in lengths_to_try(result.modulus, len(result), 2, 100):
                for finite in (False, True):
                    due = wires.records(length, finite)
                    for record in all_records(result.modulus, len(result), length):
                        found = result.has(record) if finite else result.begins(record)
                        self.assertIs(found, record in due)


class ExampleTests(unittest.TestCase):
    def test_examples(self):
        found = [hidden(A, ("c",)) == Behaviour.whole(5, ("a", "b")), held(A, ("c",)).has(((1, 4),))]
        self.assertTrue(same(found, [True, True]))
        found = [tied(L, "a", "b", keep=True) == Behaviour.silent(5, ("a",)), tied_all(A, ("a", "c"), keep=True).ends]
        self.assertTrue(same(found, [True, ("a", "b")]))
        both = joined(L, renamed(K, a="b", b="c"), ("b",))
        self.assertTrue(same([both.ends, both.rank, both.depth, both.has(((1, 0), (4, 1)))], [("a", "c"), 1, 1, True]))
        self.assertTrue(same([beside(L, renamed(K, a="c", b="d")).depth, beside_all((A,)) == A], [2, True]))
        self.assertTrue(same([plus(L, K) == Behaviour.whole(5, ("a", "b")), meet(L, K).rank], [True, 0]))
        found = [renamed(L, a="b", b="a").ends, reordered(L, ("b", "a")).has(((0, 1), (1, 0)))]
        self.assertTrue(same(found, [("b", "a"), True]))


class OneBehaviourTests(JudgeCase):
    def test_hidden_and_held(self):
        some = Numbers(601)
        for text in small_texts(120, 602):
            sketch = Sketch.read(text)
            behaviour = of(sketch)
            before = state_of(behaviour)
            for ends in subsets(some, sketch.ends):
                rest = [end for end in sketch.ends if end not in ends]
                left_out, kept_zero = hidden(behaviour, ends), held(behaviour, ends)
                self.judge(left_out, sketch.with_parts(ends=rest))
                self.judge(kept_zero, sketch.with_parts(*map(zero, ends), ends=rest))
                self.assertLessEqual(max(left_out.depth, kept_zero.depth), behaviour.depth)
                # The rank is that with these ends hidden, and that with the other ones held.
                self.assertEqual(behaviour.rank, left_out.rank + held(behaviour, tuple(rest)).rank)
                self.assertIs(is_within(kept_zero, left_out), True)
            self.assertTrue(same(state_of(behaviour), before))

    def test_step_by_step_is_at_once(self):
        some = Numbers(603)
        for text in small_texts(120, 604):
            behaviour = of(Sketch.read(text))
            for ends in subsets(some, list(behaviour.ends)):
                for function in (hidden, held):
                    result = behaviour
                    for end in ends:
                        result = function(result, (end,))
                    self.assertEqual(result, function(behaviour, ends))
                    cut = some.below(len(ends) + 1)
                    other = hidden if function is held else held
                    one = other(function(behaviour, ends[:cut]), ends[cut:])
                    self.assertEqual(one, function(other(behaviour, ends[cut:]), ends[:cut]))

    def test_tied(self):
        some = Numbers(605)
        for text in small_texts(120, 606):
            sketch = Sketch.read(text)
            behaviour = of(sketch)
            for ends in subsets(some, sketch.ends):
                if not ends:
                    continue
                first = next(end for end in sketch.ends if end in ends)
                same_part = ["Same", *ends]
                rest = [end for end in sketch.ends if end not in ends]
                kept = [end for end in sketch.ends if end == first or end not in ends]
                before = state_of(behaviour)
                self.judge(tied(behaviour, *ends), sketch.with_parts(same_part, ends=rest))
                self.judge(tied(behaviour, *ends, keep=True), sketch.with_parts(same_part, ends=kept))
                self.assertEqual(tied_all(behaviour, ends), tied(behaviour, *ends))
                self.assertEqual(tied_all(behaviour, ends, keep=False), tied(behaviour, *ends))
                self.assertEqual(tied_all(behaviour, ends, keep=True), tied(behaviour, *ends, keep=True))
                self.assertEqual(hidden(tied_all(behaviour, ends, keep=True), (first,)), tied_all(behaviour, ends))
                self.assertLessEqual(tied_all(behaviour, ends, keep=True).depth, behaviour.depth)
                self.assertTrue(same(state_of(behaviour), before))
            for end in sketch.ends:
                self.assertEqual(tied(behaviour, end), hidden(behaviour, (end,)))
                self.assertEqual(tied(behaviour, end, keep=True), behaviour)

    def test_renamed_and_reordered(self):
        some = Numbers(607)
        for text in small_texts(120, 608):
            sketch = Sketch.read(text)
            behaviour = of(sketch)
            before = state_of(behaviour)
            order = sorted(sketch.ends, key=lambda end: some.below(100))
            self.judge(reordered(behaviour, tuple(order)), sketch.with_parts(ends=order))
            self.assertEqual(reordered(reordered(behaviour, tuple(order)), behaviour.ends), behaviour)
            fresh = sorted(["pa", "pb", "pc", "pd", "pe", "pf", "pz"], key=lambda end: some.below(100))
            exchange = dict(zip(sketch.ends, order))
            for names in ({}, dict(zip(sketch.ends, fresh)), dict(list(zip(sketch.ends, fresh))[:1]), exchange):
                apart = sketch.renamed({line: "q" + line for line in sketch.lines() if line not in sketch.ends})
                given = dict(names)
                self.judge(renamed(behaviour, **names), apart.renamed(names))
                self.assertEqual(renamed_by(behaviour, names), renamed(behaviour, **names))
                self.assertEqual(names, given)
                self.assertEqual(renamed_by(behaviour, dict(list(names.items())[::-1])), renamed_by(behaviour, names))
            self.assertTrue(same(state_of(behaviour), before))

    def test_ends_named_self(self):
        behaviour = renamed_by(L, {"a": "self"})
        self.assertEqual(behaviour.ends, ("self", "b"))
        self.assertEqual(renamed_by(behaviour, {"self": "names"}).ends, ("names", "b"))
        self.assertEqual(renamed(behaviour, b="keep", self="ends").ends, ("ends", "keep"))
        self.assertEqual(tied(behaviour, "self", "b"), tied(L, "a", "b"))


class TwoBehavioursTests(JudgeCase):
    def test_joined(self):
        some = Numbers(611)
        for one, other in sketch_pairs(110, 612):
            many = min(len(one.ends), len(other.ends))
            count = some.below(many + 1)
            places = sorted(range(len(one.ends)), key=lambda at: some.below(100))[:count]
            others = sorted(range(len(other.ends)), key=lambda at: some.below(100))[:count]
            first = one.all_apart("p")
            second = other.all_apart("q")
            names = {second.ends[k]: first.ends[at] for at, k in zip(places, others)}
            second = second.renamed(names)
            ends = tuple(names.values())
            together = first.ends + [end for end in second.ends if end not in ends]
            both = Sketch(one.modulus, first.parts + second.parts, together)
            rest = [end for end in together if end not in ends]
            left, right = of(first), of(second)
            before = state_of(left), state_of(right)
            kept, gone = joined(left, right, ends, keep=True), joined(left, right, ends)
            self.judge(kept, both, len(together) < 4)
            self.judge(gone, both.with_parts(ends=rest))
            self.assertEqual(gone, joined(left, right, ends, keep=False))
            self.assertEqual(gone, hidden(kept, ends))
            self.assertLessEqual(max(kept.depth, gone.depth), left.depth + right.depth)
            self.assertEqual(joined(left, right, ends[::-1]), gone)
            back = joined(right, left, ends, keep=True)
            self.assertEqual(reordered(back, kept.ends), kept)
            # A join is both side by side, tied end by end.
            step = beside(left, renamed_by(right, {end: "r" + end for end in right.ends}))
            for end in ends:
                step = tied(step, end, "r" + end)
            step = renamed_by(step, {"r" + end: end for end in right.ends if end not in ends})
            self.assertEqual(step, gone)
            self.assertTrue(same((state_of(left), state_of(right)), before))

    def test_beside(self):
        for group in sketches_by_modulus(60, 613, 2):
            for k in range(len(group) - 2):
                three = [sketch.all_apart("pqr"[at]) for at, sketch in enumerate(group[k:k + 3])]
                for many in (1, 2, 3):
                    some = three[:many]
                    due = Sketch(
                        some[0].modulus, [part for one in some for part in one.parts], [end for one in some for end in one.ends],
                    )
                    behaviours = tuple(of(one) for one in some)
                    before = [state_of(one) for one in behaviours]
                    result = beside_all(behaviours)
                    self.judge(result, due, many < 3)
                    self.assertEqual(beside(*behaviours), result)
                    self.assertEqual(result.rank, sum(one.rank for one in behaviours))
                    self.assertEqual(result.depth, sum(one.depth for one in behaviours))
                    self.assertTrue(same([state_of(one) for one in behaviours], before))
                one, two, three = [of(one) for one in three]
                self.assertEqual(beside(beside(one, two), three), beside(one, beside(two, three)))
                self.assertEqual(beside(one, two), joined(one, two, ()))
                self.assertEqual(reordered(beside(two, one), one.ends + two.ends), beside(one, two))

    def test_plus_and_meet(self):
        for one, other in sketch_pairs(110, 614):
            many = min(len(one.ends), len(other.ends))
            ends = ["a", "b", "c"][:many]
            first = Sketch(one.modulus, one.all_apart("p").parts, ["p" + end for end in one.ends[:many]])
            second = Sketch(one.modulus, other.all_apart("q").parts, ["q" + end for end in other.ends[:many]])
            first, second = first.renamed(dict(zip(first.ends, ends))), second.renamed(dict(zip(second.ends, ends)))
            left, right = of(first), of(second)
            before = state_of(left), state_of(right)
            met, added = meet(left, right), plus(left, right)
            self.judge(met, Sketch(one.modulus, first.parts + second.parts, ends))
            up, down = first.all_apart("u"), second.all_apart("v")
            sums = [["Sum", "u" + end, "v" + end, end] for end in ends]
            self.judge(added, Sketch(one.modulus, up.parts + down.parts + sums, ends))
            self.assertEqual(met.rank + added.rank, left.rank + right.rank)
            self.assertLessEqual(met.depth + added.depth, left.depth + right.depth)
            self.assertEqual((plus(right, left), meet(right, left)), (added, met))
            self.assertEqual((plus(left, left), meet(left, left)), (left, left))
            self.assertTrue(is_within(met, left) and is_within(left, added))
            self.assertEqual((plus(met, left), meet(added, left)), (left, left))
            self.assertTrue(same((state_of(left), state_of(right)), before))
            # What lies within stays within.
            for function, small, large in ((plus, left, added), (meet, met, left)):
                self.assertIs(is_within(function(small, right), function(large, right)), True)
            self.assertIs(is_within(hidden(met, met.ends[:1]), hidden(left, left.ends[:1])), True)
            self.assertIs(is_within(held(met, met.ends[:1]), held(left, left.ends[:1])), True)
            if ends:
                self.assertIs(is_within(tied(met, *met.ends), tied(added, *met.ends)), True)

    def test_order_and_grouping(self):
        some = Numbers(615)
        for _ in range(40):
            modulus = some.one_of((2, 3, 97))
            three = [
                Behaviour.spanned(modulus, ("a", "b", "c"), (some.record(modulus, 3, 1 + some.below(4)),)) for _ in range(3)
            ]
            one, two, three = three
            for function in (plus, meet):
                for first, second, third in ((one, two, three), (plus(one, two), two, plus(two, three))):
                    due = function(first, function(second, third))
                    self.assertEqual(function(function(first, second), third), due)
                    self.assertEqual(function(third, function(second, first)), due)
                    self.assertEqual(function(second, function(first, third)), due)

    def test_a_finite_record_of_a_sum_need_not_be_a_sum(self):
        one = Behaviour.spanned(2, ("a", "b"), (((1, 0), (1, 1)),))
        other = Behaviour.spanned(2, ("a", "b"), (((1, 0),),))
        self.assertIs(plus(one, other).has(((0, 1),)), True)
        one = Behaviour.spanned(2, ("a", "b"), (((1, 0), (0, 1)),))
        other = Behaviour.spanned(2, ("a", "b"), (((0, 1), (1, 0)),))
        self.assertEqual(plus(one, other), Behaviour.whole(2, ("a", "b")))


class EdgeTests(JudgeCase):
    def test_without_ends(self):
        empty = Behaviour.whole(5, ())
        for result in (
            hidden(A, ("a", "b", "c")), held(L, ("b", "a")), tied(L, "a", "b"), joined(L, K, ("a", "b")), beside(empty),
            beside(empty, empty), plus(empty, empty), meet(empty, empty), renamed(empty), reordered(empty, ()),
            hidden(empty, ()), held(empty, ()), joined(empty, empty, ()), joined(empty, empty, (), keep=True), renamed_by(empty, {}),
        ):
            self.assertTrue(same(state_of(result), state_of(empty)))
        for behaviour in (A, L, K):
            self.assertEqual(beside(empty, behaviour, empty), behaviour)
            self.assertEqual(joined(behaviour, empty, (), keep=True), behaviour)
            self.assertEqual(joined(empty, behaviour, ()), behaviour)
            self.assertEqual((hidden(behaviour, ()), held(behaviour, ())), (behaviour, behaviour))

    def test_whole_and_silent(self):
        for ends in (("a",), ("b", "a", "c"), tuple("hgfedcba")):
            whole, silent = Behaviour.whole(97, ends), Behaviour.silent(97, ends)
            self.assertEqual((plus(whole, silent), meet(whole, silent)), (whole, silent))
            self.assertEqual(hidden(whole, ends[:1]), Behaviour.whole(97, ends[1:]))
            self.assertEqual(held(whole, ends[:1]), Behaviour.whole(97, ends[1:]))
            self.assertEqual(hidden(silent, ends[:1]), Behaviour.silent(97, ends[1:]))
            self.assertEqual(tied(whole, *ends, keep=True), Behaviour.whole(97, ends[:1]))
            self.assertEqual(joined(whole, silent, ends, keep=True), silent)
            self.assertEqual(reordered(silent, ends[::-1]), Behaviour.silent(97, ends[::-1]))
            self.assertEqual(renamed_by(whole, {ends[0]: "zz"}), Behaviour.whole(97, ("zz",) + ends[1:]))

    def test_rings_of_delays(self):
        ring = Sketch.read("3: Delay a b, Delay b a -> a b")
        self.judge(of(ring), ring)
        open_ring = Behaviour.of(Diagram(3, Delay("a", "b"), Delay("c", "d"), ends=("a", "b", "c", "d")))
        self.assertEqual(tied(tied(open_ring, "b", "c", keep=True), "a", "d", keep=True), Behaviour.silent(3, ("a", "b")))
        self.assertEqual(tied(Behaviour.of(Diagram(3, Delay("a", "b"), ends=("a", "b"))), "a", "b", keep=True).rank, 0)

    def test_eight_and_nine_ends(self):
        for left, right, common in ((4, 4, 0), (5, 4, 1), (8, 8, 4), (8, 8, 8), (6, 7, 5), (8, 0, 0)):
            one_ends = tuple("abcdefgh"[:left])
            other_ends = one_ends[:common] + tuple("stuvwxyz"[:right - common])
            one, other = Behaviour.whole(2, one_ends), Behaviour.silent(2, other_ends)
            ends = one_ends[:common]
            for keep, many in ((False, left + right - 2 * common), (True, left + right - common)):
                if many <= 8:
                    self.assertEqual(len(joined(one, other, ends, keep=keep)), many)
                else:
                    self.too_large(8, joined, one, other, ends, keep=keep)
            if common:
                self.too_large(8, joined, one, Behaviour.whole(2, tuple("stuvwxyz")), ())
        self.assertEqual(len(beside(Behaviour.whole(2, tuple("abcde")), Behaviour.whole(2, tuple("xyz")))), 8)
        self.too_large(8, beside, Behaviour.whole(2, tuple("abcde")), Behaviour.whole(2, tuple("wxyz")))
        singles = tuple(Behaviour.whole(2, (end,)) for end in "abcdefghi")
        self.assertEqual(len(beside_all(singles[:8])), 8)
        self.too_large(8, beside_all, singles)
        self.too_large(8, beside_all, singles * 1 + (far(24, ("x", "y"), 2), far(24, ("u", "v"), 2)))

    def too_large(self, limit, function, *some, **keywords):
        error = caught(function, *some, **keywords)
        self.assertIs(type(error), TooLarge)
        self.assertTrue(same(error.limit, limit))

    def test_depths_of_24_and_25(self):
        one = far(12)
        for more, fits in ((12, True), (13, False)):
            other = far(more, ("b", "c"))
            others = far(more, ("x", "y"))
            wide = Behaviour.spanned(5, ("a", "b", "c", "d"), (((1, 0, 0, 0),) + ((0,) * 4,) * 11 + ((0, 1, 0, 0),),))
            last = Behaviour.spanned(5, ("a", "b", "c", "d"), (((0, 0, 1, 0),) + ((0,) * 4,) * (more - 1) + ((0, 0, 0, 1),),))
            tops = beside(one, Behaviour.whole(5, ("c", "d")))
            bottoms = beside(Behaviour.whole(5, ("a", "b")), far(more, ("c", "d")))
            calls = (
                (joined, one, other, ("b",)), (joined, one, others, ()), (beside, one, others), (beside_all, (one, others)),
                (plus, wide, last), (meet, tops, bottoms),
            )
            for function, *some in calls:
                if fits:
                    self.assertEqual(function(*some).depth, 24)
                else:
                    self.too_large(24, function, *some)
            if fits:
                self.assertEqual(joined(one, other, ("b",)), far(24, ("a", "c")))
                self.assertEqual(joined(one, other, ("b",), keep=True).depth, 24)
                self.assertEqual(plus(wide, last), reordered(beside(one, far(12, ("c", "d"))), tuple("abcd")))
        # Nine ends are said before a depth of 25.
        self.too_large(8, beside, far(12, tuple("abcde")), far(13, tuple("wxyz")))
        # In between the depth may be greater than 24.
        back = reordered(far(24, ("c", "b")), ("b", "c"))
        self.assertEqual(joined(far(24), back, ("b",)).depth, 0)

    def test_large(self):
        some = Numbers(616)
        for modulus, rank, length in ((97, 4, 7), (2, 2, 13), (97, 1, 25), (5, 6, 5), (97, 3, 9)):
            ends = tuple("abcdefgh")
            one, two = [
                Behaviour.spanned(modulus, ends, tuple(some.record(modulus, 8, length) for _ in range(rank))) for _ in range(2)
            ]
            other = renamed_by(two, dict(zip(ends, "efghijkl")))
            start = time.perf_counter()
            for function, *arguments in (
                (hidden, one, ("b", "a")), (held, one, ("b", "a")), (tied, one, "a", "c", "e"), (plus, one, two), (meet, one, two),
                (joined, one, other, tuple("efgh")), (reordered, one, ends[::-1]), (renamed_by, one, {"a": "z"}),
            ):
                error = caught(function, *arguments)
                self.assertIn(type(error), (type(None), TooLarge))
            self.assertEqual(reordered(reordered(one, ends[::-1]), ends), one)
            self.assertEqual(hidden(hidden(one, ("a",)), ("b",)), hidden(one, ("a", "b")))
            self.assertEqual(one.rank, hidden(one, ("a", "b")).rank + held(one, tuple("cdefgh")).rank)
            self.assertLess(time.perf_counter() - start, 4)

    def test_driving_sets_of_a_join(self):
        """[0.13]: what was joined is driven as the diagram that says the same."""
        for one, other in sketch_pairs(40, 617, 2):
            first, second = one.all_apart("p"), other.all_apart("q")
            both = Sketch(one.modulus, first.parts + second.parts, first.ends + second.ends)
            result = beside(of(first), of(second))
            self.assertEqual(list(driving_sets(result)), list(driving_sets(of(both))))


class ErrorTests(unittest.TestCase):
    def test_hidden_held_and_reordered(self):
        first = [("behaviour", value, InvalidBehaviour, None) for value in NO_BEHAVIOURS]
        for function in (hidden, held):
            faults = first + [("ends", value, InvalidEnds, None) for value in NO_TUPLES]
            check_faults(self, function, ("behaviour", "ends"), {"behaviour": K, "ends": ("a",)}, faults)
        faults = first + [("ends", value, InvalidEnds, None) for value in NO_TUPLES + ((), ("a",), ("a", "b", "a"), ("b", "b"))]
        check_faults(self, reordered, ("behaviour", "ends"), {"behaviour": K, "ends": ("b", "a")}, faults)

    def test_tied(self):
        first = [("behaviour", value, InvalidBehaviour, None) for value in NO_BEHAVIOURS]
        faults = first + [("ends", value, InvalidEnds, None) for value in NO_TUPLES + ((),)]
        for keep in (False, True):
            check_faults(
                self, tied_all, ("behaviour", "ends"), {"behaviour": K, "ends": ("a",)}, faults, {"keep": keep},
            )
        faults = first + [("end", value, InvalidEnds, None) for value in ODD + ("c", "b", ("a",), 5, K)]
        check_faults(self, tied, ("behaviour", "end", "b"), {"behaviour": K, "end": "a", "b": "b"}, faults)
        self.assertIs(type(caught(tied, K)), InvalidEnds)
        self.assertIs(type(caught(tied, None)), InvalidBehaviour)

    def test_joined(self):
        good = {"one": A, "other": L, "ends": ("b", "a")}
        faults = [("one", value, InvalidBehaviour, None) for value in NO_BEHAVIOURS]
        faults += [("other", value, InvalidBehaviour, None) for value in NO_BEHAVIOURS + (Behaviour.whole(3, ("a", "b")),)]
        faults += [("ends", value, InvalidEnds, None) for value in NO_TUPLES + (("c",), ("a", "c"), ("a", "b", "c"))]
        faults += [("ends", ("a",), Conflict, "b"), ("ends", ("b",), Conflict, "a"), ("ends", (), Conflict, "a")]
        check_faults(self, joined, ("one", "other", "ends"), good, faults)
        check_faults(self, joined, ("one", "other", "ends"), good, faults, {"keep": True})
        for ends in (("c",), ("a", "b", "c"), ("b", "c")):
            self.assertIs(type(caught(joined, L, A, ends)), InvalidEnds)
        # The first end of `one`, also where `other` has another order.
        wide = Behaviour.whole(5, tuple("hgfedcba"))
        error = caught(joined, wide, Behaviour.whole(5, ("a", "z", "g", "h")), ("h",))
        self.assertTrue(type(error) is Conflict and error.name == "g")
        error = caught(joined, wide, Behaviour.whole(5, ("a", "z")), ())
        self.assertTrue(type(error) is Conflict and error.name == "a")

    def test_beside(self):
        self.assertIs(type(caught(beside)), InvalidBehaviour)
        for value in ODD + ([K], {0: K}, 5, K, KEEP, (K, KEEP), (None,)):
            self.assertIs(type(caught(beside_all, value)), InvalidBehaviour)
        for value in NO_BEHAVIOURS + (Behaviour.whole(3, ("x", "y")),):
            for some in ((value,), (K, value), (K, K, value), (value, K, K), (K, value, K)):
                if some != (Behaviour.whole(3, ("x", "y")),):
                    self.assertIs(type(caught(beside, *some)), InvalidBehaviour)
                    self.assertIs(type(caught(beside_all, some)), InvalidBehaviour)
        for some, name in (((K, K), "a"), ((L, renamed(K, a="c")), "b"), ((A, renamed(K, a="x", b="y"), renamed(A, a="z")), "b")):
            for error in (caught(beside, *some), caught(beside_all, some)):
                self.assertIs(type(error), Conflict)
                self.assertEqual(error.name, name)
        # A Conflict is said before too many ends and too great a depth.
        error = caught(beside, far(24), far(24, ("c", "a")), Behaviour.whole(5, tuple("stuvwxyz")))
        self.assertTrue(type(error) is Conflict and error.name == "a")

    def test_plus_and_meet(self):
        others = NO_BEHAVIOURS + (A, reordered(K, ("b", "a")), Behaviour.whole(3, ("a", "b")), renamed(K, a="c"))
        faults = [("one", value, InvalidBehaviour, None) for value in NO_BEHAVIOURS]
        faults += [("other", value, InvalidBehaviour, None) for value in others]
        for function in (plus, meet):
            check_faults(self, function, ("one", "other"), {"one": K, "other": L}, faults)

    def test_renamed_by(self):
        faults = [("behaviour", value, InvalidBehaviour, None) for value in NO_BEHAVIOURS]
        faults += [("names", value, InvalidName, None) for value in ODD + (K, 5) if type(value) is not dict]
        for key in ("c", "A", "", None, 0, True, ("a",), "ab"):
            faults += [("names", {"a": "x", key: "y"}, UnknownName, key), ("names", {key: None, "z": "y"}, UnknownName, key)]
        faults += [("names", {"a": value}, InvalidName, None) for value in ODD + ("toolongname", K, ("a",), 5) if value != "a"]
        faults += [("names", {"a": "x", "b": None}, InvalidName, None), ("names", {"a": "b", "b": 5}, InvalidName, None)]
        for names, name in (({"a": "b"}, "b"), ({"b": "a"}, "a"), ({"a": "x", "b": "x"}, "x")):
            faults.append(("names", names, Conflict, name))
        check_faults(self, renamed_by, ("behaviour", "names"), {"behaviour": K, "names": {"a": "x"}}, faults)
        wide = Behaviour.whole(5, ("a", "b", "c", "d"))
        error = caught(renamed_by, wide, {"d": "b", "a": "c"})
        self.assertTrue(type(error) is Conflict and error.name == "c")

    def test_renamed(self):
        for value in NO_BEHAVIOURS:
            self.assertIs(type(caught(renamed, value, a=None, q="x")), InvalidBehaviour)
        error = caught(renamed, K, a=None, q="x", r="y")
        self.assertTrue(type(error) is UnknownName and error.name == "q")
        self.assertIs(type(caught(renamed, K, a="b", b="B")), InvalidName)
        error = caught(renamed, K, a="b")
        self.assertTrue(type(error) is Conflict and error.name == "b")


if __name__ == "__main__":
    unittest.main()
