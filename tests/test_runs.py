"""[0.13], [8.1] to [8.3]: driveends.runs.runs."""

import time
import unittest
from itertools import permutations

from driveends.behaviours.behaviours import Behaviour
from driveends.behaviours.comparisons import beginnings, separating
from driveends.diagrams.diagrams import Diagram
from driveends.diagrams.parts import Delay, Mix, Same, Sum
from driveends.driving.driving import drives, driving_sets, is_paper_against
from driveends.errors import (
    Impossible, InvalidBehaviour, InvalidEnds, InvalidNumber, InvalidOperation, InvalidRecord, InvalidVector, NotDriving,
    TooLarge, UnknownName,
)
from driveends.runs.runs import Run, same_future
from tests.helper import ODD, Numbers, all_records, all_vectors, caught, same, small_texts

ADD = Diagram(5, Sum("a", "b", "c"), ends=("a", "b", "c"))
LATE = Diagram(5, Delay("a", "b"), ends=("a", "b"))
KEEP = Diagram(5, Sum("a", "c", "b"), Delay("b", "c"), ends=("a", "b"))
keep, late, add = Behaviour.of(KEEP), Behaviour.of(LATE), Behaviour.of(ADD)
NO_BEHAVIOURS = ODD + (KEEP, Sum("a"), "behaviour", (keep,), 5, Behaviour)
NO_RECORDS = tuple(value for value in ODD if value != ()) + (
    [(1, 1)], ([1, 1],), ((1, 1), None), ((1, 1), (1,)), ((1, 1, 1),), ((),), ((1, 5),), ((True, 1),), ((0, 0),) * 201, KEEP,
)
NO_ENDS = tuple(value for value in ODD if value != ()) + (
    "ab", ["a"], ("a", "a"), ("c",), ("a", "z"), ("A",), ("a", None), (("a",),), {"a": 1}, KEEP,
)
NO_NUMBERS = tuple(value for value in ODD) + (5, -1, 97, "1", (1,), KEEP, keep)


def small_behaviours(many, seed):
    return [Behaviour.of(Diagram.read(text)) for text in small_texts(many, seed)]


def scrambled_run(some, behaviour, length, run=None):
    """A run after so many steps, each with any driving set."""
    run = Run(behaviour) if run is None else run
    sets = list(driving_sets(behaviour))
    for _ in range(length):
        values = {end: some.below(behaviour.modulus) for end in some.one_of(sets)}
        run.drive(values)
    return run


class ExampleTests(unittest.TestCase):
    def test_examples(self):
        run = Run(keep)
        found = [run.step(a=1), run.step(b=3), run.step(a=4), str(run)]
        self.assertTrue(same(found, [(1, 1), (2, 3), (4, 2), "3 steps of a, b"]))
        run = Run(keep)
        self.assertTrue(same([run.drive({"b": 2}), run.expected({"a": 1}), len(run)], [(2, 2), (1, 3), 1]))
        self.assertTrue(same(Run.replayed(keep, ((2, 2),)).options(), ((0, 2), ((1, 1),))))
        self.assertIsNone(same_future(Run.replayed(keep, ((1, 1), (4, 0))), Run(keep)))

    def test_class_value(self):
        self.assertTrue(same((Run.MAX_STEPS, Run(keep).MAX_STEPS), (200, 200)))


class StepTests(unittest.TestCase):
    def test_any_driving_set_at_each_step(self):
        some = Numbers(111)
        for behaviour in small_behaviours(150, 112):
            sets = list(driving_sets(behaviour))
            run = Run(behaviour)
            past = ()
            for _ in range(7):
                ends = some.one_of(sets)
                order = list(ends)
                if some.below(2):
                    order.reverse()
                values = {end: some.below(behaviour.modulus) for end in order}
                before = dict(values)
                expected = run.expected(values)
                self.assertEqual(run.record, past)
                way = some.below(3)
                if way == 0:
                    vector = run.drive(values)
                elif way == 1:
                    vector = run.step(**values)
                else:
                    self.assertEqual(run.driven_by(tuple(order)), ends)
                    vector = run.push(*[values[end] for end in ends])
                self.assertTrue(same(values, before))
                self.assertTrue(same(vector, expected))
                self.assertEqual(tuple(vector[behaviour.ends.index(end)] for end in ends), tuple(values[end] for end in ends))
                past += (vector,)
                self.assertTrue(behaviour.begins(past))
                self.assertTrue(same((run.record, run.steps, len(run)), (past, len(past), len(past))))

    def test_runs_show_exactly_the_beginnings(self):
        for behaviour in small_behaviours(60, 113):
            modulus, width = behaviour.modulus, len(behaviour)
            if modulus ** (2 * width) > 300:
                continue
            for ends in list(driving_sets(behaviour))[:3]:
                shown = set()
                for numbers in all_records(modulus, len(ends), 2):
                    run = Run(behaviour)
                    run.drivers = ends
                    for vector in numbers:
                        run.push(*vector)
                    shown.add(run.record)
                self.assertEqual(shown, set(beginnings(behaviour, 2)))

    def test_possible_vectors(self):
        some = Numbers(114)
        for behaviour in small_behaviours(120, 115):
            modulus, width = behaviour.modulus, len(behaviour)
            run = scrambled_run(some, behaviour, some.below(6))
            offset, space = run.options()
            self.assertTrue(same(space, behaviour.first_space))
            self.assertTrue(all(offset[row.index(1)] == 0 for row in space))
            self.assertTrue(behaviour.begins(run.record + (offset,)))
            for vector in all_vectors(modulus, width):
                right = behaviour.begins(run.record + (vector,))
                self.assertIs(run.accepts(vector), right)
                other = run.branch()
                if right:
                    self.assertTrue(same(other.take(vector), len(run) + 1))
                    self.assertEqual(other.record, run.record + (vector,))
                else:
                    error = caught(other.take, vector)
                    self.assertIs(type(error), Impossible)
                    self.assertTrue(same(error.time, len(run)))
                    self.assertEqual(other, run)

    def test_accepts_any_value(self):
        run = Run.replayed(keep, ((2, 2),))
        for value in ODD + ([1, 3], (1, 3, 0), (1,), (1, True), (True, 3), (1, 8), (1, -2), "13", {1: 3}, KEEP, keep, run, ((1, 3),)):
            self.assertIs(run.accepts(value), False, value)
        self.assertIs(run.accepts((1, 3)), True)
        for value, right in (((), True), ((0,), False), ([], False), (None, False)):
            self.assertIs(Run(Behaviour.silent(5, ())).accepts(value), right)

    def test_no_ends_and_rank_0(self):
        run = Run(Behaviour.silent(5, ()))
        self.assertTrue(same((run.drivers, run.step(), run.push(), run.drive({}), run.expected({}), run.take(())), ((), (), (), (), (), 4)))
        self.assertEqual(str(run), "4 steps")
        run = Run(Behaviour.silent(5, ("a", "b")))
        self.assertTrue(same((run.push(), run.step(), run.options(), str(run)), ((0, 0), (0, 0), ((0, 0), ()), "2 steps of a, b")))
        self.assertEqual(run.drivers, ())


class DriverTests(unittest.TestCase):
    def test_first_drivers(self):
        for behaviour in small_behaviours(100, 116):
            run = Run(behaviour)
            self.assertTrue(same(run.drivers, next(iter(driving_sets(behaviour)))))
            self.assertEqual(Run.replayed(behaviour, ()).drivers, run.drivers)

    def test_set_in_any_order(self):
        for behaviour in small_behaviours(80, 117):
            run = Run(behaviour)
            for ends in driving_sets(behaviour):
                for order in permutations(ends):
                    run.drivers = order
                    self.assertTrue(same(run.drivers, ends))
                    self.assertTrue(same(run.driven_by(order), ends))
        run = Run(add)
        run.drivers = ("c", "a")
        self.assertTrue(same((run.drivers, run.push(1, 3)), (("a", "c"), (1, 2, 3))))
        self.assertTrue(same(run.step(b=1, a=1), (1, 1, 2)))
        self.assertEqual(run.drivers, ("a", "c"))

    def test_wrong_drivers(self):
        for behaviour, wrong in ((late, (("b",), ("a", "b"), (), ("b", "a"))), (keep, (("a", "b"), ())), (add, (("a",), ("a", "b", "c")))):
            run = Run(behaviour)
            first = run.drivers
            for ends in wrong:
                for way in (run.driven_by, lambda value: setattr(run, "drivers", value)):
                    error = caught(way, ends)
                    self.assertIs(type(error), NotDriving)
                    self.assertIs(is_paper_against(behaviour, ends, error.paper), True)
                    self.assertEqual(run.drivers, first)
        run = Run(keep)
        for ends in NO_ENDS:
            self.assertIs(type(caught(run.driven_by, ends)), InvalidEnds)
            self.assertIs(type(caught(lambda value: setattr(run, "drivers", value), ends)), InvalidEnds)
            self.assertEqual(run.drivers, ("a",))


class PastTests(unittest.TestCase):
    def test_steps_set_back(self):
        some = Numbers(118)
        for behaviour in small_behaviours(60, 119):
            run = scrambled_run(some, behaviour, 6)
            past = run.record
            for count in (6, 4, 4, 1, 0):
                if some.below(2):
                    run.steps = count
                else:
                    self.assertTrue(same(run.back_to(count), count))
                self.assertTrue(same((run.steps, len(run), run.record), (count, count, past[:count])))
                self.assertEqual(run, Run.replayed(behaviour, past[:count]))
                self.assertEqual(run.options(), Run.replayed(behaviour, past[:count]).options())
                values = {end: some.below(behaviour.modulus) for end in run.drivers}
                other = Run.replayed(behaviour, past[:count])
                self.assertEqual(run.drive(values), other.drive(values))
                run.back_to(count)

    def test_wrong_counts(self):
        run = Run.replayed(keep, ((1, 1), (0, 1)))
        for value in ODD + (3, -1, -2, 201, "1", (1,), keep, 10 ** 40):
            for way in (run.back_to, lambda one: setattr(run, "steps", one)):
                error = caught(way, value)
                self.assertIs(type(error), InvalidNumber)
                self.assertIs(error.value, value)
                self.assertEqual(run.record, ((1, 1), (0, 1)))

    def test_replayed(self):
        some = Numbers(120)
        for behaviour in small_behaviours(80, 121):
            modulus, width = behaviour.modulus, len(behaviour)
            for _ in range(6):
                record = some.record(modulus, width, some.below(4))
                time_of_it = behaviour.first_impossible(record)
                if time_of_it is None:
                    run = Run.replayed(behaviour, record)
                    self.assertTrue(same(run.record, record))
                    self.assertEqual(run.behaviour, behaviour)
                else:
                    error = caught(Run.replayed, behaviour, record)
                    self.assertIs(type(error), Impossible)
                    self.assertTrue(same(error.time, time_of_it))

    def test_rows(self):
        run = Run.replayed(keep, ((1, 1), (0, 1), (4, 0)))
        self.assertTrue(same(list(run.rows()), [(1, 1), (0, 1), (4, 0)]))
        seen = []
        for vector in run.rows():
            seen.append(vector)
            run.step(a=2)
        self.assertEqual(seen, [(1, 1), (0, 1), (4, 0)])
        self.assertEqual(len(run), 6)
        seen = []
        for vector in run.rows():
            run.steps = 0
            seen.append(vector)
        self.assertEqual(len(seen), 6)
        self.assertEqual(list(Run(keep).rows()), [])

    def test_branches_are_independent(self):
        run = Run(add)
        run.driven_by(("b", "c"))
        run.push(1, 3)
        other = run.branch()
        self.assertTrue(same((other.record, other.drivers), (run.record, ("b", "c"))))
        self.assertTrue(other == run and other.behaviour == run.behaviour)
        other.push(1, 1)
        other.drivers = ("a", "b")
        self.assertTrue(same((len(run), run.drivers, len(other), other.drivers), (1, ("b", "c"), 2, ("a", "b"))))
        run.steps = 0
        self.assertEqual((len(run), len(other)), (0, 2))
        self.assertNotEqual(run, other)
        shown = other.record
        other.step(a=1, b=1)
        self.assertEqual(len(shown), 2)

    def test_continued(self):
        run = Run(late)
        run.push(1)
        whole = Behaviour.whole(5, ("a", "b"))
        other = run.continued(whole)
        self.assertTrue(same((other.record, other.drivers, run.drivers), (((1, 0),), ("a", "b"), ("a",))))
        self.assertEqual(other.behaviour, whole)
        other.take((3, 3))
        self.assertEqual((len(run), len(other)), (1, 2))
        self.assertIs(type(caught(run.continued, keep)), Impossible)
        self.assertTrue(same(caught(run.continued, keep).time, 0))
        other.back_to(0)
        for vector in ((1, 1), (0, 1), (2, 2)):
            other.take(vector)
        self.assertTrue(same(caught(other.continued, keep).time, 2))
        run.driven_by(("a",))
        self.assertEqual(run.continued(late).drivers, ("a",))
        for value in NO_BEHAVIOURS + (add, Behaviour.silent(7, ("a", "b")), Behaviour.silent(5, ("b", "a")), Behaviour.silent(5, ("a",))):
            self.assertIs(type(caught(run.continued, value)), InvalidBehaviour)

    def test_equality_and_texts(self):
        one, other = Run.replayed(keep, ((1, 1),)), Run(Behaviour.spanned(5, ("a", "b"), (((1, 1), (4, 0)),)))
        self.assertFalse(one == other)
        other.driven_by(("b",))
        other.push(1)
        self.assertTrue(one == other and other == one and not one != other)
        self.assertNotEqual(one, Run.replayed(Behaviour.whole(5, ("a", "b")), ((1, 1),)))
        self.assertNotEqual(Run(keep), Run(late))
        self.assertEqual(Run(keep), Run(keep))
        for value in ODD + (keep, str(one), one.record, (one,), len(one), KEEP, Run):
            self.assertIs(one == value, False)
            self.assertIs(value == one, False)
        self.assertEqual([str(Run(keep)), str(one), str(Run(add))], ["0 steps of a, b", "1 steps of a, b", "0 steps of a, b, c"])
        run = Run(Behaviour.silent(5, ()))
        run.step()
        self.assertEqual(str(run), "1 steps")

    def test_what_is_told_gives_no_access(self):
        run = Run.replayed(keep, ((1, 1),))
        for name in ("behaviour", "record"):
            with self.assertRaises(AttributeError):
                setattr(run, name, ())
        record = run.record
        run.step(a=1)
        self.assertEqual(record, ((1, 1),))
        values = {"a": 1}
        run.drive(values)
        values["a"] = 2
        self.assertEqual(run.record, ((1, 1), (1, 2), (1, 3)))


class ErrorTests(unittest.TestCase):
    def raised(self, kind, function, *some):
        error = caught(function, *some)
        self.assertIs(type(error), kind, some)
        return error

    def test_making_runs(self):
        for value in NO_BEHAVIOURS:
            self.raised(InvalidBehaviour, Run, value)
            self.raised(InvalidBehaviour, Run.replayed, value, ())
            self.raised(InvalidBehaviour, Run.replayed, value, None)
        for value in NO_RECORDS:
            self.raised(InvalidRecord, Run.replayed, keep, value)
        self.raised(InvalidRecord, Run.replayed, keep, ((1, 2), (1,)))

    def test_driving(self):
        for behaviour, fine in ((late, {"a": 1}), (add, {"a": 1, "c": 2})):
            run = Run(behaviour)
            for way in (run.drive, run.expected):
                for value in ODD + (("a",), [("a", 1)], "a", KEEP, behaviour, 5):
                    if not isinstance(value, dict):
                        self.raised(InvalidOperation, way, value)
                for name in (None, True, 0, "", "z", "A", ("a",), "a ", (), -1):
                    self.assertIs(self.raised(UnknownName, way, {name: 1}).name, name)
                    self.assertIs(self.raised(UnknownName, way, {"b": None, name: 1, "zz": 9}).name, name)
                for ends in ((), ("b",), ("a", "b", "c")[:len(behaviour)]):
                    if not drives(behaviour, ends):
                        error = self.raised(NotDriving, way, {end: None for end in ends})
                        self.assertIs(is_paper_against(behaviour, ends, error.paper), True)
                for number in NO_NUMBERS:
                    for end in fine:
                        self.assertIs(self.raised(InvalidNumber, way, {**fine, end: number}).value, number)
            self.assertEqual(len(run), 0)
        run = Run(add)
        self.assertEqual(self.raised(InvalidNumber, run.drive, {"c": 7, "a": 6}).value, 7)
        self.assertEqual(self.raised(InvalidNumber, run.expected, {"a": 6, "c": 7}).value, 6)
        for values in ({"z": 1}, {"a": 1}, {"a": 5, "b": 1}, {}):
            kind = type(caught(run.drive, values))
            self.assertIs(type(caught(lambda: run.step(**values))), kind)
        self.assertIs(type(caught(lambda: run.step(values=1))), UnknownName)

    def test_pushing(self):
        run = Run(add)
        for numbers in ((), (1,), (1, 2, 3), (None,), (None, None, None), (5,)):
            self.raised(InvalidVector, run.push, *numbers)
        for number in NO_NUMBERS:
            self.assertIs(self.raised(InvalidNumber, run.push, number, 99).value, number)
            self.assertIs(self.raised(InvalidNumber, run.push, 1, number).value, number)
        self.assertEqual(len(run), 0)

    def test_taking(self):
        run = Run.replayed(keep, ((1, 1),))
        for value in ODD + ([1, 2], (1, 2, 0), (1,), (True, 2), (1, 7), (None, 2), "12", {1: 2}, KEEP, keep, ((1, 2),)):
            self.raised(InvalidVector, run.take, value)
        self.assertTrue(same(self.raised(Impossible, run.take, (1, 1)).time, 1))
        self.assertEqual(run.record, ((1, 1),))

    def test_200_vectors(self):
        run = Run(keep)
        for k in range(200):
            self.assertEqual(len(run), k)
            run.push(k % 5)
        record = run.record
        for way, some in (
            (run.push, (1,)), (run.drive, ({"a": 1},)), (run.drive, ({"b": 1},)), (run.expected, ({"a": 1},)),
            (run.take, (run.options()[0],)), (lambda: run.step(a=1), ()),
        ):
            self.assertEqual(self.raised(TooLarge, way, *some).limit, 200)
        offset, _ = run.options()
        self.assertTrue(run.accepts(offset))
        self.assertFalse(run.accepts(((offset[0] + 1) % 5, offset[1])))
        self.assertTrue(same(self.raised(Impossible, run.take, ((offset[0] + 1) % 5, offset[1])).time, 200))
        self.raised(InvalidVector, run.push)
        self.raised(InvalidNumber, run.push, 5)
        self.raised(InvalidNumber, run.drive, {"a": 5})
        self.raised(NotDriving, run.drive, {"a": 5, "b": 5})
        self.raised(UnknownName, run.drive, {"c": 5})
        self.raised(InvalidOperation, run.drive, None)
        self.raised(InvalidVector, run.take, (5, 5))
        self.assertEqual(run.record, record)
        self.assertEqual(Run.replayed(keep, record), run)
        self.raised(InvalidRecord, Run.replayed, keep, record + (offset,))
        self.assertEqual(len(run.branch()), 200)
        self.assertEqual(len(run.continued(keep)), 200)
        run.steps = 199
        self.assertEqual(run.push(199 % 5), record[-1])

    def test_futures(self):
        run = Run(keep)
        for value in ODD + (keep, KEEP, (run,), "run", run.record, Run):
            self.raised(InvalidOperation, same_future, value, run)
            self.raised(InvalidOperation, same_future, run, value)
        for other in (add, Behaviour.silent(7, ("a", "b")), Behaviour.silent(5, ("b", "a")), Behaviour.silent(5, ("a",))):
            self.raised(InvalidBehaviour, same_future, run, Run(other))
            self.raised(InvalidBehaviour, same_future, Run(other), run)


class FutureTests(unittest.TestCase):
    def follows(self, run, record):
        """Whether the record can follow the past."""
        return run.behaviour.begins(run.record + record)

    def check(self, one, other):
        found = same_future(one, other)
        self.assertTrue(same(same_future(one, other), found))
        longest = one.behaviour.depth + other.behaviour.depth + 1
        modulus, width = one.behaviour.modulus, len(one.behaviour)
        if found is None:
            length = max(k for k in range(longest + 1) if modulus ** (k * width) <= 300)
        else:
            self.assertTrue(1 <= len(found) <= longest)
            self.assertNotEqual(self.follows(one, found), self.follows(other, found))
            length = max(k for k in range(len(found)) if modulus ** (k * width) <= 300)
        for record in all_records(modulus, width, length):
            self.assertEqual(self.follows(one, record), self.follows(other, record))
        return found

    def test_pasts_of_one_behaviour(self):
        some = Numbers(130)
        for behaviour in small_behaviours(80, 131):
            runs = [scrambled_run(some, behaviour, some.below(5)) for _ in range(4)]
            for one in runs:
                for other in runs:
                    self.check(one, other)
                self.assertIsNone(same_future(one, one.branch()))

    def test_pasts_of_two_behaviours(self):
        some = Numbers(132)
        lengths = set()
        for text in small_texts(120, 133):
            diagram = Diagram.read(text)
            one = Behaviour.of(diagram)
            for part in (Sum("a"), Delay("a", "b"), Same("a", "b"), Mix("b", a=1, c=1)):
                other = Behaviour.of(diagram.with_part(part))
                run = scrambled_run(some, other, some.below(4))
                for another in (run.continued(one), scrambled_run(some, one, some.below(4))):
                    found = self.check(run, another)
                    lengths.add(0 if found is None else len(found))
        self.assertGreaterEqual(lengths, {0, 1, 2})

    def test_a_finite_past_has_the_future_of_the_empty_one(self):
        some = Numbers(134)
        for behaviour in small_behaviours(100, 135):
            zeros = ((0,) * len(behaviour),)
            for _ in range(4):
                run = scrambled_run(some, behaviour, some.below(4))
                for _ in range(behaviour.depth):
                    if not run.accepts(zeros[0]):
                        break
                    run.take(zeros[0])
                else:
                    finite = behaviour.has(run.record[:len(run) - behaviour.depth])
                    if finite:
                        self.assertIsNone(same_future(run, Run(behaviour)))

    def test_long_pasts(self):
        one = Run.replayed(keep, ((1, 1),) + ((0, 1),) * 199)
        self.assertIsNone(same_future(one, Run.replayed(keep, ((1, 1),))))
        found = same_future(one, Run(keep))
        self.assertEqual(len(found), 1)
        self.assertNotEqual(self.follows(Run.replayed(keep, ((1, 1),)), found), keep.begins(found))

    def test_late_differences(self):
        names = ["s" + letter for letter in "abcdefghijklm"]
        chain = Behaviour.of(Diagram(3, *[Delay(one, two) for one, two in zip(names, names[1:])], ends=(names[0], names[-1])))
        for at in range(12):
            run = Run(chain)
            run.step(sa=1)
            for _ in range(at):
                run.step(sa=0)
            found = same_future(run, Run(chain))
            self.assertEqual(len(found), 12 - at)
        run.step(sa=0)
        self.assertIsNone(same_future(run, Run(chain)))
        longer = Behaviour.spanned(3, chain.ends, (((1, 0),) + ((0, 0),) * 12 + ((0, 1),),))
        self.assertEqual(len(separating(chain, longer)), 13)
        self.assertEqual(len(same_future(Run(chain), Run(longer))), 13)


class LargestTests(unittest.TestCase):
    def test_deep_behaviours(self):
        start = time.perf_counter()
        some = Numbers(140)
        ends = tuple("abcdefgh")
        for many, length in ((6, 5), (4, 7), (1, 25), (7, 4)):
            behaviour = Behaviour.spanned(97, ends, tuple(some.record(97, 8, length) for _ in range(many)))
            run = scrambled_run(some, behaviour, 100)
            other = scrambled_run(some, behaviour, 50, run.branch())
            self.assertTrue(behaviour.begins(other.record))
            found = same_future(run, other)
            self.assertLessEqual(len(found), 2 * behaviour.depth + 1)
            self.assertNotEqual(behaviour.begins(run.record + found), behaviour.begins(other.record + found))
            self.assertEqual(len(scrambled_run(some, behaviour, 50, other)), 200)
        self.assertLess(time.perf_counter() - start, 10)


if __name__ == "__main__":
    unittest.main()
