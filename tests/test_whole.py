"""[0.1] to [0.13] over the whole program: what is said otherwise is the same everywhere."""

import time
import unittest

from driveends.behaviours.behaviours import Behaviour
from driveends.behaviours.comparisons import comparison, inclusion, is_inclusion, separating
from driveends.depth.depth import depth_paper, fewest_delays, is_depth_paper
from driveends.depth.generators import are_least, least_generators
from driveends.depth.machines import is_machine, machine, outputs
from driveends.diagrams.diagrams import Diagram
from driveends.diagrams.parts import Delay, Same, Use
from driveends.diagrams.records import filling, is_bar, is_filling
from driveends.driving.driving import drives, driving_sets
from driveends.errors import Impossible
from driveends.operations.operations import beside, hidden, joined, meet, plus, renamed_by, reordered
from driveends.operations.turned import dual, dual_diagram, reversed_time, turned
from driveends.runs.runs import Run, same_future
from driveends.wishes.wishes import is_wish_paper, wish
from driveends.workshop.workshop import Workshop
from tests.helper import Numbers, Sketch, small_texts


def read(sketch):
    return Diagram.read(sketch.text())


def of(sketch):
    return Behaviour.of(read(sketch))


def written_otherwise(some, sketch):
    """The same rows at the same ends: parts mixed and twice, new lines in between, other names for inner lines."""
    parts = [list(part) for part in sketch.parts]
    parts += [list(some.one_of(parts)) for _ in range(2)] if parts else []
    order = sorted(range(len(parts)), key=lambda at: some.below(1000))
    parts = [parts[at] for at in order]
    # A line in between: one place at which a line stands is cut from the others.
    for new in ("cuta", "cutb"):
        places = [
            (k, at) for k, part in enumerate(parts) for at, word in enumerate(part)
            if at and word.isalpha() and word.islower()
        ]
        if places:
            k, at = some.one_of(places)
            parts.append(["Same", new, parts[k][at]] if some.below(2) else ["Times", "1", parts[k][at], new])
            parts[k] = parts[k][:at] + [new] + parts[k][at + 1:]
    other = Sketch(sketch.modulus, parts, sketch.ends)
    inner = [line for line in other.lines() if line not in other.ends]
    names = ["n" + "abcdefghijklmnopqrstuvwxyz"[k] for k in range(len(inner))]
    return other.renamed(dict(zip(sorted(inner, key=lambda line: some.below(1000)), names)))


def runs_along(some, behaviour, length):
    """A run that is driven by another set at each step."""
    sets = list(driving_sets(behaviour))
    run = Run(behaviour)
    for _ in range(length):
        run.drive({end: some.below(behaviour.modulus) for end in some.one_of(sets)})
    return run


class WrittenOtherwiseTests(unittest.TestCase):
    def test_diagrams(self):
        some = Numbers(1001)
        for text in small_texts(120, 1002):
            sketch = Sketch.read(text)
            other = written_otherwise(some, sketch)
            one, two = of(sketch), of(other)
            self.assertEqual(one, two, (text, other.text()))
            self.assertEqual(str(one), str(two))
            self.assertEqual(list(driving_sets(one)), list(driving_sets(two)))
            self.assertEqual(least_generators(one), least_generators(two))
            self.assertEqual(comparison(one, two), "equal")
            self.assertIsNone(separating(one, two))
            run = runs_along(some, one, 5)
            self.assertEqual(Run.replayed(two, run.record), run)
            self.assertIsNone(same_future(Run.replayed(two, run.record), run))
            order = sorted(sketch.ends, key=lambda end: some.below(1000))
            self.assertEqual(of(other.with_parts(ends=order)), reordered(one, tuple(order)))
            sets = [sorted(ends) for ends in driving_sets(reordered(one, tuple(order)))]
            self.assertEqual(sorted(sets), sorted(sorted(ends) for ends in driving_sets(one)))
            names = dict(zip(sketch.ends, ("pp", "qq", "rr", "ss", "tt", "uu", "vv")))
            self.assertEqual(of(other.renamed(names)), renamed_by(one, names))
            self.assertEqual(Behaviour.of(turned(read(other))), Behaviour.of(turned(read(sketch))))
            self.assertEqual(Behaviour.of(dual_diagram(read(other))), dual(one))
            self.assertEqual(fewest_delays(two), fewest_delays(one))

    def test_nested_and_joined(self):
        some = Numbers(1003)
        for text in small_texts(80, 1004):
            sketch = Sketch.read(text)
            other = written_otherwise(some, sketch)
            if not sketch.ends:
                continue
            ends = tuple(sketch.ends)
            second = tuple("s" + end for end in ends)
            found = []
            for one in (sketch, other):
                shop = Workshop(sketch.modulus)
                shop.put("inner", read(one))
                shop.define("twice", Use("inner", *ends), Use("inner", *(ends[:1] + second[1:])), ends=ends[1:] + second[1:])
                found.append(shop.behaviour_of("twice"))
            behaviour = of(sketch)
            again = renamed_by(of(other), dict(zip(ends[1:], second[1:])))
            due = joined(behaviour, again, ends[:1])
            self.assertEqual(found, [due, due])
            self.assertEqual(hidden(joined(again, behaviour, ends[:1], keep=True), ends[:1]), reordered(due, second[1:] + ends[1:]))

    def test_exchanged_while_runs_go_on(self):
        """A diagram that is written otherwise, and the one with the fewest delays, in place of a used diagram."""
        some = Numbers(1005)
        for text in small_texts(80, 1006):
            sketch = Sketch.read(text)
            ends = tuple(sketch.ends)
            shop = Workshop(sketch.modulus)
            shop.put("inner", read(sketch))
            shop.define("outer", Use("inner", *ends), Delay("zz", "yy"), ends=ends)
            shop.start("one", "inner")
            shop.start("two", "outer")
            run = runs_along(some, shop.behaviour_of("inner"), 4)
            for vector in run.record:
                for name in ("one", "two"):
                    shop.drive(name, {end: vector[ends.index(end)] for end in run.drivers})
            for diagram in (read(written_otherwise(some, sketch)), fewest_delays(of(sketch)), read(sketch)):
                self.assertEqual(shop.put("inner", diagram), ())
                self.assertEqual(shop.run_of("one").record, run.record)
                values = {end: some.below(sketch.modulus) for end in run.drivers}
                vector = run.drive(values)
                self.assertEqual([shop.drive("one", values), shop.drive("two", values)], [vector, vector])
                self.assertEqual(shop.expanded("inner").delays, diagram.delays)
            shop.undo(many=6)
            shop.redo(many=5)
            self.assertEqual(shop.run_of("one").record, run.record)

    def test_refused_exchanges(self):
        some = Numbers(1007)
        refused = 0
        texts = small_texts(220, 1008)
        for text, second in zip(texts, texts[1:]):
            one, other = Sketch.read(text), Sketch.read(second)
            if one.modulus != other.modulus:
                continue
            many = min(len(one.ends), len(other.ends))
            one = Sketch(one.modulus, one.parts, one.ends[:many])
            other = Sketch(one.modulus, other.parts, other.ends[:many]).all_apart("q")
            other = other.renamed(dict(zip(other.ends, one.ends)))
            run = runs_along(some, of(one), 5)
            shop = Workshop(one.modulus)
            shop.put("m", read(one))
            shop.start("r", "m")
            for vector in run.record:
                shop.drive("r", {end: vector[one.ends.index(end)] for end in run.drivers})
            due = of(other).first_impossible(run.record)
            if due is None:
                self.assertEqual(shop.put("m", read(other)), () if of(one) == of(other) else ("r",))
                self.assertEqual(shop.run_of("r").behaviour, of(other))
                continue
            refused += 1
            with self.assertRaises(Impossible) as held:
                shop.put("m", read(other))
            self.assertEqual(held.exception.time, due)
            self.assertEqual(shop.run_of("r"), run)
        self.assertGreater(refused, 10)


class GuaranteeTests(unittest.TestCase):
    """[0.13], for behaviours that were read, joined, turned and so on."""

    def behaviours(self, some):
        texts = small_texts(60, 1009)
        for text, second in zip(texts, texts[1:]):
            one = Behaviour.of(Diagram.read(text))
            yield one
            yield dual(one)
            yield reversed_time(one)
            other = Behaviour.of(Diagram.read(second))
            if one.modulus != other.modulus or len(one) + len(other) > 5:
                continue
            names = dict(zip(other.ends, ("pp", "qq", "rr", "ss")))
            both = beside(one, renamed_by(other, names))
            yield both
            yield hidden(both, both.ends[:1])
            if one.ends and other.ends:
                shared = joined(one, renamed_by(other, {**names, other.ends[0]: one.ends[0]}), one.ends[:1], keep=True)
                yield shared
                yield plus(shared, dual(shared))
                yield meet(shared, reversed_time(shared))

    def test_driving_sets_machines_and_depth(self):
        some = Numbers(1010)
        for behaviour in self.behaviours(some):
            sets = list(driving_sets(behaviour))
            self.assertNotEqual(sets, [])
            self.assertIs(are_least(behaviour, least_generators(behaviour)), True)
            run = runs_along(some, behaviour, 6)
            self.assertIs(behaviour.begins(run.record), True)
            for ends in sets[:4]:
                self.assertIs(drives(behaviour, ends), True)
                value = machine(behaviour, ends)
                self.assertEqual(len(value[2]), behaviour.depth)
                self.assertIs(is_machine(behaviour, ends, value), True)
                # What was driven by any sets is what the machine for this one shows.
                inputs = tuple(tuple(vector[behaviour.ends.index(end)] for end in value[0]) for vector in run.record)
                others = tuple(tuple(vector[behaviour.ends.index(end)] for end in value[1]) for vector in run.record)
                self.assertEqual(outputs(behaviour.modulus, value, inputs), others)
                self.assertIs(is_depth_paper(behaviour, depth_paper(behaviour, ends)), True)
            diagram = fewest_delays(behaviour)
            self.assertEqual((diagram.delays, Behaviour.of(diagram)), (behaviour.depth, behaviour))
            self.assertEqual(filling(diagram, run.record)[0], "filling")
            self.assertIs(is_filling(diagram, run.record, filling(diagram, run.record)[1]), True)

    def test_papers(self):
        some = Numbers(1011)
        behaviours = list(self.behaviours(some))
        for one in behaviours[::3]:
            for other in (dual(one), reversed_time(one), plus(one, dual(one)), meet(one, reversed_time(one))):
                self.assertIs(is_inclusion(one, other, inclusion(one, other)), True)
                record = separating(one, other)
                self.assertIs(record is None, one == other)
                if record is not None:
                    self.assertLessEqual(len(record), one.depth + other.depth + 1)
                    self.assertIsNot(one.begins(record), other.begins(record))
                    diagram = fewest_delays(other if one.begins(record) else one)
                    word, value = filling(diagram, record)
                    self.assertEqual(word, "bar")
                    self.assertIs(is_bar(diagram, record, value), True)
                self.assertIs(is_wish_paper(one, other, wish(one, other)), True)

    def test_behaviours_are_made_fast(self):
        """Behaviours of diagrams of two to six lines are asked very often."""
        diagrams = [Diagram.read(text) for text in small_texts(200, 1012)]
        start = time.perf_counter()
        behaviours = [Behaviour.of(diagram) for diagram in diagrams]
        for behaviour in behaviours:
            for function in (dual, reversed_time, least_generators, fewest_delays):
                function(behaviour)
            machine(behaviour, next(iter(driving_sets(behaviour))))
        self.assertLess((time.perf_counter() - start) / len(diagrams), 0.02)


class StateTests(unittest.TestCase):
    def test_results_give_no_access(self):
        """[0.2]: what is returned can be changed without changing what returned it."""
        shop = Workshop(5)
        shop.define("late", Delay("a", "b"), ends=("a", "b"))
        shop.start("r", "late")
        run = shop.run_of("r")
        run.push(3)
        self.assertEqual(shop.run_of("r").record, ())
        late = shop.behaviour_of("late")
        table = filling(Diagram(5, Same("a", "b"), ends=("a",)), ((1,),))[1]
        table["a"] = ()
        self.assertEqual(filling(Diagram(5, Same("a", "b"), ends=("a",)), ((1,),))[1], {"a": (1,), "b": (1,)})
        names = {"a": "x"}
        renamed_by(late, names)
        self.assertEqual(names, {"a": "x"})
        self.assertIsInstance(least_generators(late), tuple)
        self.assertEqual(machine(late, ("a",)), machine(late, ("a",)))

    def test_classes_and_kinds_of_results(self):
        late = Behaviour.of(Diagram(5, Delay("a", "b"), ends=("a", "b")))
        for value in (least_generators(late), machine(late, ("a",)), depth_paper(late, ("a",)), wish(late, late)):
            self.assertIs(type(value), tuple)
        for value in (drives(late, ("a",)), are_least(late, ()), is_machine(late, ("a",), None), is_depth_paper(late, None)):
            self.assertIs(type(value), bool)


if __name__ == "__main__":
    unittest.main()
