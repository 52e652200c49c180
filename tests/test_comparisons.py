"""[6.1] to [6.3]: driveends.behaviours.comparisons."""

import time
import unittest
from itertools import islice, product

from driveends.behaviours.behaviours import Behaviour
from driveends.behaviours.comparisons import (
    beginnings, common_steps, comparison, inclusion, is_chain, is_inclusion, is_within, separating,
)
from driveends.diagrams.diagrams import Diagram
from driveends.diagrams.parts import Delay, Mix, Same, Sum
from driveends.errors import InvalidBehaviour, InvalidNumber
from tests.helper import ODD, Numbers, all_records, caught, lengths_to_try, same, small_texts

ADD = Diagram(5, Sum("a", "b", "c"), ends=("a", "b", "c"))
LATE = Diagram(5, Delay("a", "b"), ends=("a", "b"))
KEEP = Diagram(5, Sum("a", "c", "b"), Delay("b", "c"), ends=("a", "b"))
L, K = Behaviour.of(LATE), Behaviour.of(KEEP)
Z = Behaviour.spanned(5, ("a", "b"), (((1, 0), (0, 0), (0, 1)),))
AB = ("a", "b")
NO_BEHAVIOURS = ODD + (KEEP, Sum("a"), str(K), (K,), [K], 5, Behaviour)
OTHERS = (
    Behaviour.of(ADD), Behaviour.of(Diagram(7, *KEEP.parts, ends=AB)), Behaviour.of(Diagram(5, *KEEP.parts, ends=("b", "a"))),
    Behaviour.of(Diagram(5, *KEEP.parts, ends=("a",))), Behaviour.silent(5, ()), Behaviour.whole(2, AB), Behaviour.silent(5, ("b", "a")),
)


def groups(many, seed, most_ends=2, moduli=(2, 3)):
    """Behaviours of small diagrams in groups with the same modulus and the same ends."""
    found = {}
    for text in small_texts(many, seed):
        diagram = Diagram.read(text)
        if diagram.modulus not in moduli or len(diagram.ends) > most_ends:
            continue
        ends = {end: "ab"[k] for k, end in enumerate(diagram.ends)}
        spare = {line: "q" + line for line in diagram.lines if line not in ends}
        diagram = diagram.renamed_by({**spare, **ends})
        group = found.setdefault((diagram.modulus, len(diagram.ends)), [])
        for one in [diagram] + [diagram.with_part(Sum(end)) for end in diagram.ends]:
            behaviour = Behaviour.of(one)
            if behaviour not in group:
                group.append(behaviour)
    return list(found.values())


def finite_records(behaviour, most):
    """All finite records up to a length, if there are not too many to try."""
    lengths = lengths_to_try(behaviour.modulus, len(behaviour), most, 300)
    return [
        record for length in lengths for record in all_records(behaviour.modulus, len(behaviour), length) if behaviour.has(record)
    ]


class ExampleTests(unittest.TestCase):
    def test_examples(self):
        found = [is_within(L, Behaviour.whole(5, AB)), comparison(L, L), comparison(L, K)]
        self.assertTrue(same(found, [True, "equal", "unlike"]))
        self.assertIs(is_chain(Behaviour.silent(5, AB), Z, Behaviour.whole(5, AB)), True)
        found = [separating(L, K), separating(L, Z), separating(K, K), common_steps(Z, L)]
        self.assertTrue(same(found, [((1, 0),), ((1, 0), (0, 0)), None, 1]))
        found = [len(list(beginnings(K, 2))), list(beginnings(K, 1))[:3], list(beginnings(K, 0))]
        self.assertTrue(same(found, [25, [((0, 0),), ((1, 1),), ((2, 2),)], [()]]))
        found = [is_inclusion(L, K, ("gap", ((1, 0), (0, 1)))), is_inclusion(L, L, ("within", (((1, 0), (0, 1)),)))]
        self.assertTrue(same(found, [True, True]))
        self.assertIs(is_inclusion(L, K, ("within", ())), False)
        self.assertTrue(L.begins(((1, 0), (0, 1))) and not Z.begins(((1, 0), (0, 1))))


class WithinTests(unittest.TestCase):
    def test_by_finite_records_and_beginnings(self):
        pairs = 0
        for group in groups(100, 71):
            known = [(one, finite_records(one, 4), set(self.begun(one))) for one in group[:22]]
            for one, finite, begun in known:
                for other, others, _ in known:
                    right = is_within(one, other)
                    self.assertIs(right, all(record in other for record in finite))
                    self.assertIs(right, all(other.begins(record) for record in begun))
                    back = is_within(other, one)
                    word = {(True, True): "equal", (True, False): "within", (False, True): "contains"}.get((right, back), "unlike")
                    self.assertEqual(comparison(one, other), word)
                    self.assertEqual(word == "equal", one == other)
                    if right and one.rank == other.rank:
                        self.assertEqual(one, other)
                    pairs += right and not back
        self.assertGreater(pairs, 20)

    def begun(self, behaviour):
        length = lengths_to_try(behaviour.modulus, len(behaviour), 5, 1100)[-1]
        return beginnings(behaviour, length)

    def test_diagrams_written_otherwise_and_with_one_part_more(self):
        for text in small_texts(60, 72):
            diagram = Diagram.read(text)
            behaviour = Behaviour.of(diagram)
            parts = list(diagram.parts)
            parts.reverse()
            self.assertEqual(comparison(behaviour, Behaviour.of(Diagram.of(diagram.modulus, tuple(parts), diagram.ends))), "equal")
            for index in range(len(diagram)):
                self.assertTrue(is_within(behaviour, Behaviour.of(diagram.without_part(index))))
            for part in (Sum("a"), Same(*diagram.lines[:2], "zz"), Mix("a", b=1), Delay("a", "zz")):
                smaller = Behaviour.of(diagram.with_part(part))
                self.assertTrue(is_within(smaller, behaviour))
                self.assertIn(comparison(behaviour, smaller), ("equal", "contains"))
                self.assertIs(is_chain(smaller, behaviour), True)
                self.assertIs(is_chain(behaviour, smaller), smaller == behaviour)

    def test_chains(self):
        self.assertIs(is_chain(), True)
        self.assertIs(is_chain(K), True)
        silent, whole = Behaviour.silent(5, AB), Behaviour.whole(5, AB)
        for some in product((silent, Z, K, whole), repeat=3):
            right = all(is_within(one, other) for one, other in zip(some, some[1:]))
            self.assertIs(is_chain(*some), right)
        self.assertIs(is_chain(silent, silent, K, K, whole), True)
        self.assertIs(is_chain(silent, whole, silent), False)


class SeparatingTests(unittest.TestCase):
    def test_the_smallest_record_by_a_search(self):
        lengths = {}
        for group in groups(120, 73):
            for one in group[:16]:
                for other in group[:16]:
                    found = separating(one, other)
                    self.assertTrue(same(found, separating(other, one)))
                    self.assertEqual(found is None, one == other)
                    if found is None:
                        self.assertIsNone(common_steps(one, other))
                        continue
                    self.assertTrue(same(common_steps(one, other), len(found) - 1))
                    self.assertLessEqual(len(found), one.depth + other.depth + 1)
                    self.assertNotEqual(one.begins(found), other.begins(found))
                    self.check(one, other, found)
                    lengths[len(found)] = lengths.get(len(found), 0) + 1
        self.assertGreaterEqual(set(lengths), {1, 2, 3})

    def check(self, one, other, found):
        """No smaller record is a beginning of exactly one of them."""
        modulus, width, length = one.modulus, len(one), len(found)
        if modulus ** (width * length) > 800:
            return
        records = [record for size in range(length + 1) for record in all_records(modulus, width, size)]
        self.assertEqual(next(record for record in records if one.begins(record) != other.begins(record)), found)

    def test_against_sorted_beginnings(self):
        some = Numbers(75)
        for _ in range(60):
            modulus = some.one_of((3, 5, 7))
            one, other = (
                Behaviour.spanned(modulus, tuple("abc"), tuple(some.record(modulus, 3, 1 + some.below(2)) for _ in range(2)))
                for _ in range(2)
            )
            if some.below(2):
                # The same beginnings of one vector.
                records = tuple((vector, some.record(modulus, 3, 1)[0]) for vector in one.first_space)
                other = Behaviour.spanned(modulus, tuple("abc"), records)
            found = separating(one, other)
            if found is None or one.modulus ** (2 * len(found)) > 3000:
                continue
            begun, others = set(beginnings(one, len(found))), set(beginnings(other, len(found)))
            self.assertEqual(min(begun ^ others), found)
            shorter = len(found) - 1
            self.assertEqual(set(beginnings(one, shorter)), set(beginnings(other, shorter)))

    def test_late_partings(self):
        for many in range(1, 13):
            names = ["s" + "abcdefghijklm"[k] for k in range(many + 1)]
            chain = Diagram(3, *[Delay(one, two) for one, two in zip(names, names[1:])], ends=(names[0], names[-1]))
            longer = Behaviour.spanned(3, chain.ends, (((1, 0),) + ((0, 0),) * many + ((0, 1),),))
            found = separating(Behaviour.of(chain), longer)
            self.assertEqual(found, ((1, 0),) + ((0, 0),) * many)
            self.assertEqual(common_steps(longer, Behaviour.of(chain)), many)


class BeginningTests(unittest.TestCase):
    def test_all_of_one_length(self):
        for text in small_texts(120, 76):
            behaviour = Behaviour.of(Diagram.read(text))
            for length in lengths_to_try(behaviour.modulus, len(behaviour), 4, 700):
                expected = [one for one in all_records(behaviour.modulus, len(behaviour), length) if behaviour.begins(one)]
                found = list(beginnings(behaviour, length))
                self.assertTrue(same(found, expected))
                self.assertEqual(list(beginnings(behaviour, length)), expected)
                self.assertEqual(len(found), behaviour.modulus ** (behaviour.rank * length))

    def test_long_ones(self):
        for behaviour in (K, L, Z, Behaviour.whole(97, tuple("abcdefgh")), Behaviour.of(ADD)):
            found = list(islice(beginnings(behaviour, 200), 300))
            self.assertEqual(found[0], ((0,) * len(behaviour),) * 200)
            self.assertEqual(found, sorted(set(found)))
            self.assertTrue(all(len(record) == 200 and behaviour.begins(record) for record in found[::50]))
            self.assertEqual(found[1][:199], found[0][:199])

    def test_ranks_and_ends_of_nothing(self):
        for length in (0, 1, 3, 200):
            self.assertTrue(same(list(beginnings(Behaviour.silent(5, AB), length)), [((0, 0),) * length]))
            self.assertTrue(same(list(beginnings(Behaviour.silent(5, ()), length)), [((),) * length]))
        self.assertTrue(same(list(beginnings(K, 0)), [()]))


class InclusionTests(unittest.TestCase):
    def test_papers_that_are_returned(self):
        for group in groups(100, 77):
            for one in group[:14]:
                for other in group[:14]:
                    paper = inclusion(one, other)
                    within = is_within(one, other)
                    self.assertEqual(paper[0], "within" if within else "gap")
                    self.assertEqual(len(paper), 2)
                    self.assertIs(is_inclusion(one, other, paper), True)
                    self.assertTrue(same(inclusion(one, other), paper))
                    if within:
                        self.assertTrue(all(record in one and record in other for record in paper[1]))
                        self.assertEqual(Behaviour.spanned(one.modulus, one.ends, paper[1]), one)
                    else:
                        self.assertTrue(paper[1] in one and paper[1] not in other)

    def test_papers_that_others_made(self):
        for group in groups(60, 78, moduli=(2,)):
            for one in group[:8]:
                records = finite_records(one, 3)
                for other in group[:8]:
                    for record in records:
                        self.assertIs(is_inclusion(one, other, ("gap", record)), record not in other)
                        spanned = Behaviour.spanned(2, one.ends, (record,))
                        self.assertIs(is_inclusion(one, other, ("within", (record,))), record in other and spanned == one)
                    generators = inclusion(one, one)[1]
                    for more in ((), records[:3], records[-3:], [((0,) * len(one),) * 5]):
                        for value in (generators + tuple(more), tuple(more) + generators[::-1]):
                            self.assertIs(is_inclusion(one, other, ("within", value)), is_within(one, other))
                    for k in range(len(generators)):
                        self.assertIs(is_inclusion(one, other, ("within", generators[:k] + generators[k + 1:])), False)
                        delayed = generators[:k] + (((0,) * len(one),) + generators[k],) + generators[k + 1:]
                        self.assertIs(is_inclusion(one, other, ("within", delayed)), is_within(one, other))

    def test_records_that_cannot_be_made_a_behaviour_of(self):
        zeros = ((0, 0),)
        right = ((1, 0), (0, 1))
        for value, is_right in (
            ((right, zeros * 46), True), ((right, zeros * 47), False), ((right,) * 24, True), ((right,) * 25, False),
            ((right,) + (zeros,) * 46, True), ((right,) + (zeros,) * 47, False), ((right,) + ((),) * 300, True),
            ((right, zeros * 201), False), ((zeros * 46 + right,), True), ((zeros * 47 + right,), False),
        ):
            self.assertIs(is_inclusion(L, L, ("within", value)), is_right)
            self.assertIs(is_inclusion(L, K, ("within", value)), False)
        gap = zeros * 198 + right
        self.assertIs(is_inclusion(L, K, ("gap", gap)), True)
        self.assertIs(is_inclusion(L, K, ("gap", zeros + gap)), False)
        self.assertIs(is_inclusion(L, K, ("gap", right)), True)

    def test_values_of_other_forms(self):
        right = (((1, 0), (0, 1)),)
        for one, other in ((L, L), (L, K), (L, Behaviour.whole(5, AB))):
            for value in NO_BEHAVIOURS + (
                L, ["within", right], ("within",), ("within", right, right), ("gap",), ("within", list(right)), ("within", right[0]),
                ("within", ([(1, 0), (0, 1)],)), ("within", (((1, False), (0, 1)),)), ("within", (((1, 0), (0, True)),)), ("Within", right),
                ("gaps", right[0]), ("gap", right), ("gap", list(right[0])), ("gap", ((1, 0), (0, True))), ("gap", None), (None, right),
                ("within", None), ("within", {}), ("within", L), (L, L), ("gap", L), ("", ()), ("gap", ()), ("gap", ((0, 0),)),
                ("within", (((1, 0), (0, 1), (1, 0)),)), ("within", right + (((1, 1),),)), ("gap", ((1, 0),)), (("gap", right[0]),),
            ):
                self.assertIs(is_inclusion(one, other, value), False, value)
        self.assertIs(is_inclusion(L, L, ("within", right)), True)
        self.assertIs(is_inclusion(Behaviour.silent(5, AB), L, ("within", ())), True)
        self.assertIs(is_inclusion(Behaviour.silent(5, ()), Behaviour.whole(5, ()), ("within", ((((),) * 48),))), True)
        self.assertIs(is_inclusion(Behaviour.silent(5, ()), Behaviour.whole(5, ()), ("within", ((((),) * 49),))), False)


class ErrorTests(unittest.TestCase):
    def raised(self, kind, function, *some):
        error = caught(function, *some)
        self.assertIs(type(error), kind, (function.__name__, some))
        return error

    def test_behaviours(self):
        for function in (is_within, comparison, separating, common_steps, inclusion):
            for value in NO_BEHAVIOURS:
                self.raised(InvalidBehaviour, function, value, K)
                self.raised(InvalidBehaviour, function, K, value)
                self.raised(InvalidBehaviour, function, value, value)
            for other in OTHERS:
                self.raised(InvalidBehaviour, function, K, other)
                self.raised(InvalidBehaviour, function, other, K)
        for value in NO_BEHAVIOURS:
            self.raised(InvalidBehaviour, is_inclusion, value, K, None)
            self.raised(InvalidBehaviour, is_inclusion, K, value, ("within", ()))
            self.raised(InvalidBehaviour, is_chain, value)
            self.raised(InvalidBehaviour, is_chain, K, value)
            self.raised(InvalidBehaviour, is_chain, value, K)
            self.raised(InvalidBehaviour, is_chain, K, L, K, value)
            self.raised(InvalidBehaviour, beginnings, value, 1)
            self.raised(InvalidBehaviour, beginnings, value, -1)
        for other in OTHERS:
            self.raised(InvalidBehaviour, is_inclusion, K, other, None)
            self.raised(InvalidBehaviour, is_chain, K, L, other)
            self.raised(InvalidBehaviour, is_chain, other, K)

    def test_lengths(self):
        for length in ODD + (-1, 201, 1000, "2", (1,), K, 10 ** 30):
            self.assertIs(self.raised(InvalidNumber, beginnings, K, length).value, length)
        with self.assertRaises(InvalidNumber):
            next(beginnings(K, -1))


class LargestTests(unittest.TestCase):
    def test_deep_behaviours(self):
        start = time.perf_counter()
        some = Numbers(80)
        ends = tuple("abcdefgh")
        for many, length in ((6, 5), (4, 7), (3, 9), (1, 25), (7, 4)):
            one = Behaviour.spanned(97, ends, tuple(some.record(97, 8, length) for _ in range(many)))
            last = tuple(record[:-1] + (some.record(97, 8, 1)[0],) for record in one.settled_generators)
            other = Behaviour.spanned(97, ends, last)
            found = separating(one, other)
            self.assertNotEqual(one.begins(found), other.begins(found))
            self.assertEqual(comparison(one, other), "unlike")
            self.assertIs(is_inclusion(one, other, inclusion(one, other)), True)
            self.assertIs(is_inclusion(one, one, inclusion(one, one)), True)
            for record in islice(beginnings(one, 200), 20):
                self.assertTrue(one.begins(record))
        self.assertLess(time.perf_counter() - start, 10)


if __name__ == "__main__":
    unittest.main()
