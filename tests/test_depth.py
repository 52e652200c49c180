"""[0.13], [9.3], [9.4]: driveends.depth.depth."""

import time
import unittest
from itertools import permutations, product

from driveends.behaviours.behaviours import Behaviour
from driveends.depth.depth import depth_paper, fewest_delays, is_depth_paper
from driveends.depth.generators import least_generators
from driveends.diagrams.diagrams import Diagram
from driveends.diagrams.parts import Delay, Mix, Same, Sum
from driveends.diagrams.records import filling, is_bar, is_filling
from driveends.driving.driving import drives, driving_sets, why_not
from driveends.errors import InvalidBehaviour, InvalidEnds, NotDriving, TooLarge
from driveends.runs.runs import Run
from tests.helper import ODD, Numbers, Wires, caught, echelon, lengths_to_try, same, small_texts

ADD = Diagram(5, Sum("a", "b", "c"), ends=("a", "b", "c"))
LATE = Diagram(5, Delay("a", "b"), ends=("a", "b"))
KEEP = Diagram(5, Sum("a", "c", "b"), Delay("b", "c"), ends=("a", "b"))
keep, late, add = Behaviour.of(KEEP), Behaviour.of(LATE), Behaviour.of(ADD)
NO_BEHAVIOURS = ODD + (KEEP, Sum("a"), "behaviour", (keep,), 5, Behaviour)
NO_ENDS = tuple(value for value in ODD if value != ()) + (
    "ab", ["a"], ("a", "a"), ("c",), ("a", "z"), ("A",), ("a", None), (("a",),), {"a": 1}, KEEP,
)


def small_behaviours(many, seed):
    return [Behaviour.of(Diagram.read(text)) for text in small_texts(many, seed)]


def chain(many, modulus=5):
    """A diagram in which b is what a was so many steps before."""
    names = ["a"] + ["m" + "abcdefghijklm"[k] for k in range(many - 1)] + ["b"]
    parts = [Delay(one, two) for one, two in zip(names, names[1:])] if many else [Same("a", "b")]
    return Diagram.of(modulus, tuple(parts), ("a", "b"))


def far(depth, modulus=3):
    """The behaviour in which b is what a was so many steps before."""
    zeros = ((0, 0),) * (depth - 1)
    return Behaviour.spanned(modulus, ("a", "b"), (((1, 0),) + zeros + ((0, 1),) if depth else ((1, 1),),))


def answer(behaviour, ends, past, test):
    """The answer of a past to a test, by the words of [9.4]."""
    run = Run.replayed(behaviour, past)
    steps, end = test
    vector = None
    for _ in range(steps + 1):
        vector = run.drive({one: 0 for one in ends})
    return vector[behaviour.ends.index(end)]


def is_integer(value):
    return type(value) is int


def is_right(behaviour, value):
    """Whether the value is a depth paper, by the words of [9.4]; pasts and steps must fit into runs."""
    if type(value) is not tuple or len(value) != 3:
        return False
    ends, pasts, tests = value
    if type(ends) is not tuple or any(type(end) is not str or end not in behaviour.ends for end in ends):
        return False
    if len(set(ends)) < len(ends) or not drives(behaviour, ends):
        return False
    if type(pasts) is not tuple or type(tests) is not tuple or not len(pasts) == len(tests) == behaviour.depth:
        return False
    for past in pasts:
        if type(past) is not tuple or len(past) > 200 or len(past) != len(pasts[0]):
            return False
        for vector in past:
            if type(vector) is not tuple or len(vector) != len(behaviour) or not all(is_integer(one) for one in vector):
                return False
            if not all(0 <= one < behaviour.modulus for one in vector):
                return False
        if not behaviour.begins(past):
            return False
    for test in tests:
        if type(test) is not tuple or len(test) != 2 or not is_integer(test[0]) or not 0 <= test[0] <= 60:
            return False
        if type(test[1]) is not str or test[1] not in behaviour.ends:
            return False
    answers = [[answer(behaviour, ends, past, test) for test in tests] for past in pasts]
    return len(echelon(behaviour.modulus, answers)) == behaviour.depth


class ExampleTests(unittest.TestCase):
    def test_examples(self):
        found = [is_depth_paper(keep, (("a",), (((1, 1),),), ((7, end),))) for end in ("a", "b")]
        self.assertTrue(same(found, [False, True]))


class PaperTests(unittest.TestCase):
    def test_every_driving_set_in_any_order(self):
        for behaviour in small_behaviours(120, 501):
            for ends in driving_sets(behaviour):
                for order in permutations(ends):
                    paper = depth_paper(behaviour, order)
                    self.assertEqual(sorted(paper[0]), sorted(order))
                    self.assertTrue(is_right(behaviour, paper))
                    self.assertIs(is_depth_paper(behaviour, paper), True)
                    self.assertTrue(same(depth_paper(behaviour, order), paper))
                    self.assertIs(is_depth_paper(behaviour, (ends[::-1],) + paper[1:]), True)

    def test_as_many_states_as_the_depth_says(self):
        """[9.3]: p ** n beginnings of one length, each two of which lead to different others."""
        for behaviour in small_behaviours(60, 502):
            modulus, depth = behaviour.modulus, behaviour.depth
            if modulus ** depth > 30:
                continue
            ends, pasts, tests = depth_paper(behaviour, next(iter(driving_sets(behaviour))))
            seen = set()
            for factors in product(range(modulus), repeat=depth):
                length = len(pasts[0]) if pasts else 0
                past = tuple(
                    tuple(sum(f * one[t][k] for f, one in zip(factors, pasts)) % modulus for k in range(len(behaviour)))
                    for t in range(length)
                )
                self.assertTrue(behaviour.begins(past))
                seen.add(tuple(answer(behaviour, ends, past, test) for test in tests))
            self.assertEqual(len(seen), modulus ** depth)

    def test_changed_papers(self):
        some = Numbers(503)
        seen = {True: 0, False: 0}
        for behaviour in small_behaviours(70, 504) + [far(3)]:
            sets = list(driving_sets(behaviour))
            for ends in sets[:2]:
                for value in self.changed(some, behaviour, sets, depth_paper(behaviour, ends)):
                    right = is_right(behaviour, value)
                    seen[right] += 1
                    self.assertIs(is_depth_paper(behaviour, value), right, (behaviour.ends, value))
        self.assertTrue(seen[True] > 100 and seen[False] > 100)

    def changed(self, some, behaviour, sets, paper):
        ends, pasts, tests = paper
        width = len(behaviour)
        yield (ends, pasts[::-1], tests)
        yield (ends, pasts, tests[::-1])
        yield (ends, pasts[:1] * len(pasts), tests)
        yield (ends, pasts, tests[:1] * len(tests))
        yield (ends, pasts[1:], tests)
        yield (ends, pasts, tests[1:])
        yield (ends, pasts[1:], tests[1:])
        yield (ends, pasts + pasts[:1], tests + tests[:1])
        yield (ends, pasts + ((),), tests + ((0, "a"),))
        # Longer pasts: zeros ahead do not matter, and behind them one step more is gone.
        yield (ends, tuple(((0,) * width,) * 3 + past for past in pasts), tests)
        yield (ends, tuple(past + (Run.replayed(behaviour, past).options()[0],) for past in pasts), tests)
        yield (ends, tuple(past + ((0,) * width,) for past in pasts), tests)
        yield (ends, tuple(past[:-1] for past in pasts), tests)
        yield (ends, tuple(past + ((0,) * width,) if k == 0 else past for k, past in enumerate(pasts)), tests)
        yield (ends, tuple(((0,) * width,) + past if k == 0 else past for k, past in enumerate(pasts)), tests)
        yield (ends, tuple(some.record(behaviour.modulus, width, len(past)) for past in pasts), tests)
        yield (ends, tuple(some.record(behaviour.modulus, width, 0) for past in pasts), tests)
        yield (ends, tuple(tuple(tuple(2 * n % behaviour.modulus for n in vector) for vector in past) for past in pasts), tests)
        for steps in (-1, 0, 1, 60, 61):
            yield (ends, pasts, tuple((steps, end) for _, end in tests))
            yield (ends, pasts, tuple((steps if k == 0 else old, end) for k, (old, end) in enumerate(tests)))
        for end in (*behaviour.ends, "q", None, 0, ("a",)):
            yield (ends, pasts, tuple((steps, end) for steps, _ in tests))
        yield (ends, pasts, tuple((bool(steps), end) for steps, end in tests))
        yield (ends, pasts, tuple([steps, end] for steps, end in tests))
        for test in ((), (0,), ("a",), (0, "a", "b"), None, 5, "0a", ((0, "a"),)):
            yield (ends, pasts, tuple(test if k == 0 else old for k, old in enumerate(tests)))
        yield (ends, list(pasts), tests)
        yield (ends, pasts, list(tests))
        yield (ends, tuple(list(past) for past in pasts), tests)
        yield (list(ends), pasts, tests)
        for other in sets[:3] + [(), behaviour.ends, ends + ends[:1], ends[1:], ends + ("q",), None, "a"]:
            yield (other, pasts, tests)
        yield (ends, pasts)
        yield (ends, pasts, tests, ())
        yield [ends, pasts, tests]

    def test_every_other_value(self):
        for behaviour in (keep, late, add, Behaviour.silent(5, ()), Behaviour.whole(5, ("a",)), far(24)):
            for value in ODD + (5, KEEP, keep, "paper", (("a",), (), ()), ((), (), ()), (None, None, None)):
                self.assertIs(is_depth_paper(behaviour, value), is_right(behaviour, value))
                for other in ODD + (KEEP, behaviour):
                    for paper in ((other, (), ()), (("a",), other, ()), (("a",), (), other), ((), other, ()), ((), (), other)):
                        self.assertIs(is_depth_paper(behaviour, paper), is_right(behaviour, paper))

    def test_edges(self):
        for ends in ((), ("a",), tuple("abcdefgh")):
            self.assertTrue(same(depth_paper(Behaviour.silent(97, ends), ()), ((), (), ())))
            self.assertTrue(same(depth_paper(Behaviour.whole(97, ends), ends), (ends, (), ())))
            self.assertIs(is_depth_paper(Behaviour.whole(97, ends), (ends[::-1], (), ())), True)

    def test_large(self):
        some = Numbers(505)
        shapes = ((97, 4, 7), (2, 2, 13), (5, 3, 9), (97, 6, 5))
        behaviours = [
            Behaviour.spanned(modulus, tuple("abcdefgh"), tuple(some.record(modulus, 8, length) for _ in range(rank)))
            for modulus, rank, length in shapes
        ]
        for behaviour in behaviours + [far(24)]:
            self.assertEqual(behaviour.depth, 24)
            start = time.perf_counter()
            for ends in list(driving_sets(behaviour))[:2]:
                paper = depth_paper(behaviour, ends)
                self.assertIs(is_depth_paper(behaviour, paper), True)
                long_pasts = tuple(((0,) * len(behaviour),) * (200 - len(past)) + past for past in paper[1])
                self.assertIs(is_depth_paper(behaviour, (ends, long_pasts, paper[2])), True)
                too_long = tuple(((0,) * len(behaviour),) + past for past in long_pasts)
                self.assertIs(is_depth_paper(behaviour, (ends, too_long, paper[2])), False)
            self.assertLess(time.perf_counter() - start, 8)
            self.assertTrue(is_right(behaviour, paper))


class DelayTests(unittest.TestCase):
    def judge(self, behaviour):
        found = fewest_delays(behaviour)
        self.assertIs(type(found), Diagram)
        self.assertIs(found.is_plain, True)
        self.assertEqual(found.modulus, behaviour.modulus)
        self.assertEqual(found.ends, behaviour.ends)
        self.assertEqual(found.delays, behaviour.depth)
        self.assertEqual(Behaviour.of(found), behaviour)
        self.assertEqual(Diagram.read(str(found)), found)
        self.assertEqual(fewest_delays(behaviour), found)
        return found

    def test_small_diagrams(self):
        for text in small_texts(150, 506):
            diagram = Diagram.read(text)
            found = self.judge(Behaviour.of(diagram))
            self.assertLessEqual(found.delays, diagram.delays)

    def test_the_same_records(self):
        """Against linear equations over all lines and times of both diagrams."""
        for text in small_texts(50, 507):
            diagram = Diagram.read(text)
            found = fewest_delays(Behaviour.of(diagram))
            one, other = Wires(text), Wires(str(found))
            for length in lengths_to_try(diagram.modulus, len(diagram.ends), 3, 300):
                for finite in (False, True):
                    self.assertEqual(one.records(length, finite), other.records(length, finite))

    def test_fillings_and_bars(self):
        some = Numbers(508)
        for behaviour in small_behaviours(60, 509):
            found = fewest_delays(behaviour)
            record = ()
            run = Run(behaviour)
            for _ in range(5):
                run.push(*[some.below(behaviour.modulus) for _ in run.drivers])
            record = run.record
            word, value = filling(found, record)
            self.assertEqual(word, "filling")
            self.assertIs(is_filling(found, record, value), True)
            for at in range(5):
                for place in range(len(behaviour)):
                    vector = list(record[at])
                    vector[place] = (vector[place] + 1) % behaviour.modulus
                    other = record[:at] + (tuple(vector),) + record[at + 1:]
                    word, value = filling(found, other)
                    self.assertEqual(word, "filling" if behaviour.begins(other) else "bar")
                    self.assertIs(is_bar(found, other, value), word == "bar")

    def test_depths_at_the_limit(self):
        for depth in (0, 1, 11, 12):
            self.judge(far(depth))
            self.judge(Behaviour.of(chain(depth)))
        for depth in (13, 14, 24):
            error = caught(fewest_delays, far(depth))
            self.assertIs(type(error), TooLarge)
            self.assertTrue(same(error.limit, 12))

    def test_large(self):
        some = Numbers(510)
        for modulus, rank, length in ((97, 4, 4), (2, 2, 7), (5, 6, 3), (97, 1, 13), (97, 7, 2), (3, 8, 2)):
            records = tuple(some.record(modulus, 8, length) for _ in range(rank))
            for ends in (tuple("abcdefgh"), tuple("hgfedcba"), tuple("zyxwvuts")):
                behaviour = Behaviour.spanned(modulus, ends, records)
                start = time.perf_counter()
                self.judge(behaviour)
                self.assertLess(time.perf_counter() - start, 2)

    def test_edges(self):
        for ends in ((), ("a",), tuple("abcdefgh"), ("aa", "b", "zzzzzzzz")):
            self.judge(Behaviour.silent(97, ends))
            self.judge(Behaviour.whole(97, ends))

    def test_no_diagram_with_fewer_delays(self):
        """[0.13]: without any one of its delays the diagram has another behaviour."""
        for behaviour in small_behaviours(60, 511):
            found = fewest_delays(behaviour)
            for k, part in enumerate(found.parts):
                if part.kind == "Delay":
                    self.assertNotEqual(Behaviour.of(found.without_part(k)), behaviour)

    def test_diagrams_written_otherwise(self):
        """[0.13]: the depth of longer ways to say the same."""
        twice = Diagram(5, Sum("a", "c", "b"), Delay("b", "c"), Sum("a", "d", "b"), Delay("b", "d"), ends=("a", "b"))
        self.assertEqual(fewest_delays(Behaviour.of(twice)), fewest_delays(keep))
        back = Diagram(5, Delay("a", "m"), Delay("b", "m"), Mix("n", m=2), ends=("b", "a"))
        self.assertEqual(fewest_delays(Behaviour.of(back)).delays, 0)


class ErrorTests(unittest.TestCase):
    def test_behaviour(self):
        for value in NO_BEHAVIOURS:
            for ends in (("a",), None, ("a", "a")):
                self.assertIs(type(caught(depth_paper, value, ends)), InvalidBehaviour)
            self.assertIs(type(caught(is_depth_paper, value, ends)), InvalidBehaviour)
            self.assertIs(type(caught(fewest_delays, value)), InvalidBehaviour)

    def test_ends_and_driving(self):
        for ends in NO_ENDS:
            self.assertIs(type(caught(depth_paper, keep, ends)), InvalidEnds)
        for behaviour in small_behaviours(30, 512) + [late]:
            for many in range(3):
                for ends in permutations(behaviour.ends, many):
                    error = caught(depth_paper, behaviour, ends)
                    if drives(behaviour, ends):
                        self.assertIsNone(error)
                    else:
                        self.assertIs(type(error), NotDriving)
                        self.assertTrue(same(error.paper, why_not(behaviour, ends)))

    def test_arguments_stay(self):
        before = str(keep), least_generators(keep), keep.first_space
        caught(depth_paper, keep, ["a"])
        caught(is_depth_paper, keep, (["a"], [()], [(0, "a")]))
        caught(fewest_delays, keep)
        self.assertEqual((str(keep), least_generators(keep), keep.first_space), before)


if __name__ == "__main__":
    unittest.main()
