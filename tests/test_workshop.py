"""[13.1] to [13.3]: driveends.workshop.workshop."""

import copy
import time
import unittest

from driveends.behaviours.behaviours import Behaviour
from driveends.diagrams.diagrams import Diagram
from driveends.diagrams.parts import Delay, Mix, Same, Sum, Times, Use
from driveends.driving.driving import driving_sets, is_paper_against
from driveends.errors import (
    Conflict, Impossible, InvalidDiagram, InvalidEnds, InvalidModulus, InvalidName, InvalidNumber, InvalidOperation,
    InvalidPart, NotDriving, TooLarge, UnknownName,
)
from driveends.runs.runs import Run
from driveends.workshop.workshop import Workshop
from tests.helper import ODD, Numbers, Sketch, caught, same

LATE = Diagram(5, Delay("a", "b"), ends=("a", "b"))
KEEP = Diagram(5, Sum("a", "c", "b"), Delay("b", "c"), ends=("a", "b"))
COPY = Diagram(5, Same("a", "b"), ends=("a", "b"))
NO_NAMES = ODD[:9] + ("A", "toolongname", "a b", "a1", "-") + tuple(value for value in ODD[9:] if value != "a") + (LATE, 5)


def seen(shop):
    """What can be seen of a workshop, but for its changes."""
    runs = tuple((run, name, shop.run_of(run).record) for run, name in shop.runs())
    return tuple((name, str(shop.diagram_of(name))) for name in shop.names()), runs


def everything(shop):
    """What can be seen now, and after every undo and redo; the workshop itself is left alone."""
    shop = copy.deepcopy(shop)
    found = [str(shop), seen(shop)]
    here = shop.undo(many=0)
    while shop.undo(many=0):
        shop.undo()
        found.append(seen(shop))
    shop.redo(many=here)
    while caught_nothing(shop.redo):
        found.append(seen(shop))
    return found


def caught_nothing(function):
    """Whether the call raises nothing."""
    try:
        function()
    except InvalidNumber:
        return False
    return True


def expanded_by_words(sketches, name):
    """The plain sketch of a diagram that uses others ([13.2]), with long names for new lines."""
    sketch = sketches[name]
    parts = []
    for at, part in enumerate(sketch.parts):
        if part[0] != "Use":
            parts.append(part)
            continue
        inner = expanded_by_words(sketches, part[1])
        names = {line: f"{line}_{at}_" for line in inner.lines()}
        names.update(dict(zip(inner.ends, part[2:])))
        parts += inner.renamed(names).parts
    return Sketch(sketch.modulus, parts, sketch.ends)


def plain_names(sketch):
    """The sketch with new names of letters in place of those that are too long."""
    letters = "abcdefghijklmnopqrstuvwxyz"
    fresh = ["zz" + a + b for a in letters for b in letters]
    others = [line for line in sketch.lines() if "_" in line]
    return sketch.renamed(dict(zip(others, fresh)))


def judge_expanded(test, shop):
    """Every diagram of the workshop, expanded."""
    sketches = {name: Sketch.read(str(shop.diagram_of(name))) for name in shop.names()}
    for name in shop.names():
        due = plain_names(expanded_by_words(sketches, name))
        found = shop.expanded(name)
        test.assertIs(type(found), Diagram)
        test.assertIs(found.is_plain, True)
        test.assertEqual(found.ends, shop.diagram_of(name).ends)
        delays = [part for part in due.parts if part[0] == "Delay"]
        test.assertEqual((len(found), len(found.lines), found.delays), (len(due.parts), len(due.lines()), len(delays)))
        test.assertEqual(Diagram.read(str(found)), found)
        behaviour = shop.behaviour_of(name)
        test.assertEqual(behaviour, Behaviour.of(found))
        test.assertEqual(behaviour, Behaviour.of(Diagram.read(due.text())))


def example_shop():
    shop = Workshop(5)
    shop.define("late", Delay("a", "b"), ends=("a", "b"))
    shop.define("two", Use("late", "x", "y"), Use("late", "y", "z"), ends=("x", "z"))
    shop.start("one", "two")
    shop.drive("one", {"x": 3})
    return shop


class ExampleTests(unittest.TestCase):
    def test_examples(self):
        shop = Workshop(5)
        found = [
            shop.define("late", Delay("a", "b"), ends=("a", "b")),
            shop.define("two", Use("late", "x", "y"), Use("late", "y", "z"), ends=("x", "z")),
        ]
        self.assertTrue(same(found, [(), ()]))
        self.assertTrue(same([shop.start("one", "two"), shop.drive("one", {"x": 3})], [1, (3, 0)]))
        with self.assertRaises(Impossible) as held:
            shop.define("late", Same("a", "b"), ends=("a", "b"))
        self.assertTrue(same(held.exception.time, 0))

    def test_class_values_and_text(self):
        found = (Workshop.MAX_DIAGRAMS, Workshop.MAX_RUNS, Workshop.MAX_CHAIN)
        self.assertTrue(same(found, (20, 20, 8)))
        self.assertEqual([str(Workshop(2)), len(Workshop(2))], ["0 diagrams, 0 runs, 0 changes", 0])
        shop = example_shop()
        shop.drive("one", {"x": 1})
        self.assertEqual([str(shop), len(shop)], ["2 diagrams, 1 runs, 5 changes", 2])
        shop.undo(many=2)
        self.assertEqual(str(shop), "2 diagrams, 1 runs, 3 changes")


class DiagramTests(unittest.TestCase):
    def test_expanded(self):
        shop = Workshop(5)
        shop.define("late", Delay("a", "b"), ends=("a", "b"))
        shop.define("keep", Sum("a", "c", "b"), Use("late", "b", "c"), ends=("a", "b"))
        shop.define("ring", Use("late", "a", "a"), ends=("a",))
        shop.define("twice", Use("keep", "m", "b"), Use("keep", "a", "m"), Times(3, "b", "c"), ends=("c", "a"))
        shop.define("same", Use("keep", "x", "x"), Use("late", "x", "z"), ends=("z",))
        shop.define("free", ends=("a", "b"))
        shop.define("usefree", Use("free", "x", "y"), ends=("x",))
        shop.define("noends", Delay("a", "b"), Sum("a", "b"))
        shop.define("usenone", Use("noends"), Use("noends"), Use("twice", "a", "b"), ends=("b", "a"))
        shop.define("nothing")
        shop.define("usenoth", Use("nothing"), Use("nothing"))
        shop.define("inner", Mix("a", c=2, b=3), Delay("aa", "c"), Sum("c", "b", "aa"), ends=("b", "a"))
        shop.define("outer", Use("inner", "c", "aa"), Use("inner", "aa", "b"), Use("inner", "d", "d"), ends=("b", "c", "d"))
        judge_expanded(self, shop)
        self.assertEqual(str(shop.expanded("free")), "5: -> a b")
        self.assertEqual(shop.expanded("usefree").lines, ("x",))
        self.assertEqual(len(shop.expanded("usenone")), 9)
        self.assertEqual(shop.behaviour_of("ring"), Behaviour.silent(5, ("a",)))
        self.assertEqual(shop.behaviour_of("usefree"), Behaviour.whole(5, ("x",)))
        self.assertEqual(shop.behaviour_of("keep"), Behaviour.of(KEEP))
        self.assertIs(shop.diagram_of("outer").is_plain, False)
        self.assertEqual(shop.diagram_of("twice").parts[0], Use("keep", "m", "b"))

    def test_drawn_diagrams(self):
        some = Numbers(901)
        for _ in range(40):
            modulus = some.one_of((2, 3, 5))
            shop = Workshop(modulus)
            for name in ("aa", "bb", "cc", "dd", "ee"):
                known = list(shop.names())
                parts = []
                for _ in range(1 + some.below(4)):
                    lines = some.some_of("abcd", 3)
                    used = some.one_of(known) if known else ""
                    kind = some.below(5)
                    if kind < 2 and used:
                        parts.append(Use(used, *some.some_of("abcd", len(shop.diagram_of(used).ends))))
                    elif kind == 2:
                        parts.append(Delay(*lines[:2]))
                    elif kind == 3:
                        parts.append(Mix.of(lines[0], ((lines[1], some.below(modulus)), (lines[2], 1))))
                    else:
                        parts.append(Sum(*lines))
                ends = [end for end in "dbca" if some.below(2)]
                try:
                    shop.define(name, *parts, ends=tuple(ends))
                except TooLarge:
                    continue
            judge_expanded(self, shop)

    def test_a_chain_of_eight(self):
        shop = Workshop(2)
        names = ["chain" + letter for letter in "abcdefghij"]
        shop.define(names[0], Delay("x", "y"), ends=("x", "y"))
        for before, name in zip(names, names[1:8]):
            shop.define(name, Use(before, "y", "z"), Same("x", "y"), ends=("x", "z"))
        judge_expanded(self, shop)
        self.assertEqual(len(shop.expanded(names[7])), 8)
        before = everything(shop)
        error = caught_in(shop, "define", names[8], Use(names[7], "x", "y"), ends=("x", "y"))
        self.assertTrue(type(error) is TooLarge and same(error.limit, 8))
        # The chain also grows in front, behind and in the middle.
        shop.define("first", ends=("x", "y"))
        for name, part in ((names[0], Use("first", "x", "y")), (names[4], Use(names[0], "x", "y"))):
            error = caught_in(shop, "define", name, part, ends=("x", "y"))
            self.assertIs(None if error is None else type(error), TooLarge if name == names[0] else None)
        error = caught_in(shop, "define", names[0], Use("first", "x", "y"), ends=("x", "y"))
        self.assertIs(error, None)
        shop.undo(many=3)
        self.assertEqual(everything(shop)[:2], before[:2])

    def test_names_users_and_remove(self):
        shop = Workshop(5)
        self.assertEqual((list(shop.names()), shop.runs()), ([], ()))
        for name in ("zz", "b", "aa"):
            shop.define(name, ends=("x",))
        shop.define("m", Use("b", "x"), Use("b", "y"), Use("zz", "x"))
        shop.define("c", Use("b", "x"))
        shop.define("deep", Use("c"))
        self.assertTrue(same(list(shop.names()), ["aa", "b", "c", "deep", "m", "zz"]))
        found = [shop.users(name) for name in shop.names()]
        self.assertTrue(same(found, [(), ("c", "m"), ("deep",), (), (), ("m",)]))
        self.assertEqual(len(shop), 6)
        for name, conflict in (("b", "c"), ("zz", "m"), ("c", "deep")):
            error = caught_in(shop, "remove", name)
            self.assertTrue(type(error) is Conflict and error.name == conflict)
        shop.start("run", "b")
        shop.start("arun", "aa")
        shop.start("brun", "aa")
        for name, conflict in (("b", "c"), ("aa", "arun")):
            error = caught_in(shop, "remove", name)
            self.assertTrue(type(error) is Conflict and error.name == conflict)
        shop.end("arun")
        error = caught_in(shop, "remove", "aa")
        self.assertTrue(type(error) is Conflict and error.name == "brun")
        shop.end("brun")
        shop.remove("aa")
        shop.remove("m")
        self.assertEqual((list(shop.names()), shop.users("zz"), len(shop)), (["b", "c", "deep", "zz"], (), 4))
        shop.remove("zz")
        self.assertEqual(list(shop.names()), ["b", "c", "deep"])

    def test_put_is_define(self):
        one, other = Workshop(5), Workshop(5)
        for name, diagram in (("late", LATE), ("keep", KEEP), ("use", Diagram(5, Use("keep", "a", "b"), ends=("b",)))):
            self.assertEqual(one.put(name, diagram), other.define(name, *diagram.parts, ends=diagram.ends))
            self.assertEqual(one.diagram_of(name), diagram)
        self.assertEqual(one, other)
        self.assertEqual(str(one), str(other))


def caught_in(shop, method, *arguments, **keywords):
    """The error of a call, which must not change anything; None if there is none."""
    before = everything(shop)
    call = getattr(shop, method)

    def function(*some, **more):
        return call(*some, **more)

    error = caught(function, *arguments, **keywords)
    if error is not None and everything(shop) != before:
        raise AssertionError(f"{method} changed something")
    return error


class RunTests(unittest.TestCase):
    def test_start_drive_shorten_end(self):
        shop = Workshop(5)
        shop.put("keep", KEEP)
        shop.put("late", LATE)
        self.assertTrue(same([shop.start("r", "keep"), shop.start("q", "late"), shop.start("s", "keep")], [1, 2, 3]))
        self.assertTrue(same(shop.runs(), (("q", "late"), ("r", "keep"), ("s", "keep"))))
        found = [shop.drive("r", {"a": 1}), shop.drive("r", {"b": 3}), shop.drive("q", {"a": 4}), shop.drive("q", {"a": 0})]
        self.assertTrue(same(found, [(1, 1), (2, 3), (4, 0), (0, 4)]))
        self.assertEqual(shop.run_of("r"), Run.replayed(Behaviour.of(KEEP), ((1, 1), (2, 3))))
        self.assertTrue(same([shop.shorten("r", 1), shop.shorten("r", 1), shop.shorten("q", 0)], [1, 0, 2]))
        self.assertTrue(same(shop.run_of("r").record, ((1, 1),)))
        self.assertTrue(same([shop.end("r"), shop.end("q")], [1, 0]))
        self.assertEqual(shop.runs(), (("s", "keep"),))
        self.assertEqual(str(shop), "2 diagrams, 1 runs, 14 changes")
        self.assertEqual(shop.start("r", "late"), 2)

    def test_run_of_is_independent(self):
        shop = example_shop()
        run = shop.run_of("one")
        self.assertEqual(run.drivers, next(iter(driving_sets(shop.behaviour_of("two")))))
        run.push(1)
        run.push(2)
        self.assertEqual(len(shop.run_of("one")), 1)
        shop.drive("one", {"x": 4})
        self.assertEqual(run.record, ((3, 0), (1, 0), (2, 3)))
        self.assertEqual(shop.run_of("one").record, ((3, 0), (4, 0)))
        run = shop.run_of("one")
        shop.end("one")
        self.assertEqual(len(run), 2)
        values = {"x": 2}
        shop.start("one", "two")
        shop.drive("one", values)
        self.assertEqual(values, {"x": 2})

    def test_first_drivers(self):
        shop = Workshop(5)
        shop.define("sum", Sum("a", "b", "c"), ends=("a", "b", "c"))
        shop.start("r", "sum")
        shop.drive("r", {"c": 1, "b": 2})
        run = shop.run_of("r")
        self.assertEqual(run.drivers, ("a", "b"))
        run.drivers = ("b", "c")
        self.assertEqual(shop.run_of("r").drivers, ("a", "b"))

    def test_runs_show_the_behaviour(self):
        some = Numbers(902)
        shop = example_shop()
        shop.define("wide", Use("two", "a", "b"), Sum("a", "b", "c"), ends=("c", "a", "b"))
        shop.start("r", "wide")
        sets = list(driving_sets(shop.behaviour_of("wide")))
        other = Run(shop.behaviour_of("wide"))
        for _ in range(30):
            values = {end: some.below(5) for end in some.one_of(sets)}
            self.assertEqual(shop.drive("r", values), other.drive(values))
        self.assertEqual(shop.run_of("r"), other)


class ExchangeTests(unittest.TestCase):
    def shop(self):
        """Runs of three diagrams, two of which need the first one."""
        shop = Workshop(5)
        shop.define("link", Times(2, "a", "b"), ends=("a", "b"))
        shop.define("mid", Use("link", "x", "y"), Use("link", "y", "z"), ends=("x", "z"))
        shop.define("top", Use("mid", "x", "y"), Delay("y", "z"), ends=("x", "z"))
        shop.define("apart", Delay("a", "b"), ends=("a", "b"))
        for run, name in (("d", "link"), ("b", "mid"), ("c", "top"), ("a", "top"), ("e", "apart")):
            shop.start(run, name)
        return shop

    def pasts(self, shop):
        return [shop.run_of(run).record for run, _ in shop.runs()]

    def test_by_an_equal_behaviour(self):
        shop = self.shop()
        for run in "abcde":
            end = shop.run_of(run).behaviour.ends[0]
            shop.drive(run, {end: 3})
        before = self.pasts(shop)
        self.assertTrue(same(shop.define("link", Sum("a", "a", "b"), ends=("a", "b")), ()))
        self.assertTrue(same(shop.define("link", Sum("a", "a", "b"), ends=("a", "b")), ()))
        self.assertTrue(same(shop.define("top", Delay("x", "y"), Use("mid", "y", "z"), ends=("x", "z")), ()))
        self.assertEqual(self.pasts(shop), before)
        self.assertEqual(str(shop.diagram_of("link")), "5: Sum a a b -> a b")
        judge_expanded(self, shop)

    def test_by_an_unlike_behaviour_that_all_pasts_allow(self):
        shop = self.shop()
        for run in "abcde":
            end = shop.run_of(run).behaviour.ends[0]
            shop.drive(run, {end: 0})
        shop.drive("e", {"a": 4})
        before = self.pasts(shop)
        self.assertTrue(same(shop.define("link", Times(3, "a", "b"), ends=("a", "b")), ("d",)))
        self.assertTrue(same(shop.define("link", Delay("a", "b"), ends=("a", "b")), ("a", "b", "c", "d")))
        self.assertTrue(same(shop.define("mid", Same("x", "z"), ends=("x", "z")), ("a", "b", "c")))
        self.assertTrue(same(shop.define("apart", ends=("a", "b")), ("e",)))
        self.assertEqual(self.pasts(shop), before)
        self.assertEqual(shop.drive("a", {"x": 1}), (1, 0))
        self.assertEqual(shop.drive("a", {"x": 2}), (2, 1))
        self.assertEqual(shop.drive("d", {"a": 2}), (2, 0))
        judge_expanded(self, shop)
        for run, name in shop.runs():
            self.assertEqual(shop.run_of(run).behaviour, shop.behaviour_of(name))

    def test_twice_and_a_multiple_that_is_the_same(self):
        """[13.2]: with -2 in place of 2 the chain of two has the same behaviour."""
        shop = self.shop()
        shop.drive("a", {"x": 1})
        shop.drive("b", {"x": 1})
        self.assertTrue(same(shop.define("link", Times(3, "a", "b"), ends=("a", "b")), ("d",)))
        self.assertEqual(shop.drive("a", {"x": 0}), (0, 4))

    def test_refused_by_a_past(self):
        shop = self.shop()
        for number in (0, 0, 1):
            shop.drive("d", {"a": number})
        for number in (0, 2, 1):
            shop.drive("b", {"x": number})
        for number in (0, 0, 0, 1, 1):
            shop.drive("c", {"x": number})
        # Of the runs that are refused, b is the first one.
        error = caught_in(shop, "define", "link", Times(1, "a", "b"), ends=("a", "b"))
        self.assertTrue(type(error) is Impossible and same(error.time, 1))
        error = caught_in(shop, "put", "link", LATE)
        self.assertTrue(type(error) is Impossible and same(error.time, 1))
        shop.shorten("b", 1)
        error = caught_in(shop, "put", "link", LATE)
        self.assertTrue(type(error) is Impossible and same(error.time, 4))
        shop.shorten("c", 4)
        error = caught_in(shop, "put", "link", LATE)
        self.assertTrue(type(error) is Impossible and same(error.time, 2))
        shop.shorten("d", 2)
        self.assertTrue(same(shop.put("link", LATE), ("a", "b", "c", "d")))

    def test_other_ends(self):
        shop = self.shop()
        for ends in (("b", "a"), ("a", "c"), ("x", "y")):
            error = caught_in(shop, "define", "link", ends=ends)
            self.assertTrue(type(error) is Conflict and error.name == "d")
            error = caught_in(shop, "define", "top", ends=ends)
            self.assertTrue(type(error) is Conflict and error.name == "a")
        for ends in ((), ("a",), ("a", "b", "c")):
            self.assertIs(type(caught_in(shop, "define", "link", ends=ends)), InvalidDiagram)
        error = caught_in(shop, "define", "top", ends=())
        self.assertTrue(type(error) is Conflict and error.name == "a")
        shop.end("d")
        # The diagrams that use it keep their own ends.
        self.assertTrue(same(shop.define("link", Times(2, "p", "q"), ends=("p", "q")), ()))
        self.assertTrue(same(shop.define("link", Times(2, "p", "q"), ends=("q", "p")), ()))
        self.assertTrue(same(shop.define("link", Times(1, "p", "q"), ends=("q", "p")), ("a", "b", "c")))
        shop.end("a")
        shop.end("c")
        self.assertTrue(same(shop.define("top", ends=()), ()))
        judge_expanded(self, shop)

    def test_behaviours_before_and_after(self):
        shop = self.shop()
        before = shop.behaviour_of("top")
        shop.put("link", LATE)
        after = shop.behaviour_of("top")
        self.assertNotEqual(before, after)
        self.assertEqual(after.depth, 3)
        shop.undo()
        self.assertEqual(shop.behaviour_of("top"), before)
        shop.redo()
        self.assertEqual(shop.behaviour_of("top"), after)


class UndoTests(unittest.TestCase):
    def changes(self):
        """A list of changes, one after the other."""
        return (
            lambda shop: shop.put("late", LATE),
            lambda shop: shop.define("two", Use("late", "x", "y"), Use("late", "y", "z"), ends=("x", "z")),
            lambda shop: shop.start("one", "two"),
            lambda shop: shop.drive("one", {"x": 3}),
            lambda shop: shop.start("other", "late"),
            lambda shop: shop.drive("one", {"x": 1}),
            lambda shop: shop.shorten("one", 1),
            lambda shop: shop.shorten("one", 1),
            lambda shop: shop.put("late", LATE),
            lambda shop: shop.end("one"),
            lambda shop: shop.put("late", COPY),
            lambda shop: shop.end("other"),
            lambda shop: shop.remove("two"),
            lambda shop: shop.remove("late"),
        )

    def test_every_change_is_undone_and_redone(self):
        shop = Workshop(5)
        states = [seen(shop)]
        for change in self.changes():
            change(shop)
            states.append(seen(shop))
        many = len(states) - 1
        self.assertEqual(str(shop), f"0 diagrams, 0 runs, {many} changes")
        for at in range(many, 0, -1):
            self.assertTrue(same(shop.undo(), at - 1))
            self.assertEqual(seen(shop), states[at - 1])
        for at in range(1, many + 1):
            self.assertTrue(same(shop.redo(), at))
            self.assertEqual(seen(shop), states[at])
        for start in range(many + 1):
            shop.undo(many=many - start)
            for count in range(start + 1):
                self.assertTrue(same(shop.undo(many=count), start - count))
                self.assertEqual(seen(shop), states[start - count])
                self.assertTrue(same(shop.redo(many=count), start))
                self.assertEqual(seen(shop), states[start])
            for count in range(many - start + 1):
                self.assertTrue(same(shop.redo(many=count), start + count))
                self.assertEqual(seen(shop), states[start + count])
                self.assertTrue(same(shop.undo(many=count), start))
            for value in (start + 1, -1) + tuple(one for one in ODD if type(one) is not int) + ("1", True, 10 ** 40, -5):
                error = caught_in(shop, "undo", many=value)
                self.assertTrue(type(error) is InvalidNumber and same(error.value, value))
            error = caught_in(shop, "redo", many=many - start + 1)
            self.assertTrue(type(error) is InvalidNumber and same(error.value, many - start + 1))
            for value in (-1, True, None, "", ()):
                error = caught_in(shop, "redo", many=value)
                self.assertTrue(type(error) is InvalidNumber and same(error.value, value))
            shop.redo(many=many - start)

    def test_a_new_change_ends_what_can_be_redone(self):
        for change in self.changes()[:4]:
            shop = example_shop()
            shop.undo(many=2)
            try:
                change(shop)
            except UnknownName:
                continue
            error = caught_in(shop, "redo")
            self.assertTrue(type(error) is InvalidNumber and error.value == 1)
            self.assertEqual(shop.redo(many=0), 3)
        shop = example_shop()
        shop.undo(many=2)
        # Calls that raise an error, or that change nothing, are no changes.
        self.assertIs(type(caught_in(shop, "remove", "late")), Conflict)
        seen(shop)
        self.assertEqual(shop.undo(many=0), 2)
        self.assertEqual(shop.redo(many=2), 4)

    def test_a_workshop_that_is_made_anew(self):
        shop = Workshop(5)
        for change in self.changes()[:8]:
            change(shop)
            other = Workshop(5)
            for name in ("late", "two"):
                if name in list(shop.names()):
                    other.put(name, shop.diagram_of(name))
            for run, name in shop.runs():
                other.start(run, name)
                for vector in shop.run_of(run).record:
                    ends = next(iter(driving_sets(shop.behaviour_of(name))))
                    behaviour = shop.behaviour_of(name)
                    other.drive(run, {end: vector[behaviour.ends.index(end)] for end in ends})
            self.assertTrue(other == shop and shop == other)
            self.assertIs(other != shop, False)
        empty = Workshop(5)
        shop.undo(many=8)
        self.assertEqual(shop, empty)
        shop.redo(many=8)
        self.assertEqual(shop, other)
        self.assertNotEqual(shop, empty)


class EqualTests(unittest.TestCase):
    def test_equal(self):
        one, other = example_shop(), example_shop()
        self.assertIs(one == other, True)
        other.drive("one", {"x": 1})
        self.assertIs(one == other, False)
        other.shorten("one", 1)
        self.assertIs(one == other, True)
        self.assertEqual(str(other), "2 diagrams, 1 runs, 6 changes")
        other.undo(many=6)
        self.assertIs(one == other, False)
        other.redo(many=6)
        other.end("one")
        other.start("another", "two")
        other.drive("another", {"x": 3})
        self.assertIs(one == other, False)
        # A run of another diagram, with the same behaviour and past.
        one, other = example_shop(), example_shop()
        for shop, name in ((one, "two"), (other, "three")):
            shop.define("three", *shop.diagram_of("two").parts, ends=("x", "z"))
            shop.start("r", name)
        self.assertIs(one == other, False)
        # An equal behaviour, but another diagram.
        one, other = example_shop(), example_shop()
        one.define("late", Delay("a", "b"), Same("a", "a"), ends=("a", "b"))
        self.assertIs(one == other, False)

    def test_other_values(self):
        shop = example_shop()
        for value in ODD + (5, LATE, str(shop), Workshop(5), Workshop(3)):
            self.assertIs(shop == value, False)
            self.assertIs(value == shop, False)
        self.assertIs(Workshop(3) == Workshop(5), False)
        self.assertIs(Workshop(3) == Workshop(3), True)


class Stop(Exception):
    """An error that is none of the package."""


class TrialTests(unittest.TestCase):
    def full(self):
        shop = example_shop()
        shop.drive("one", {"x": 1})
        shop.undo()
        return shop

    def test_without_an_error(self):
        shop = self.full()
        with shop.trial():
            shop.drive("one", {"x": 2})
        self.assertEqual(shop.run_of("one").record, ((3, 0), (2, 0)))
        self.assertEqual(str(shop), "2 diagrams, 1 runs, 5 changes")
        with shop.trial():
            pass
        self.assertEqual(shop.attempt(lambda other: (other is shop, other.drive("one", {"x": 0}))), (True, (0, 3)))
        self.assertEqual(shop.undo(many=6), 0)

    def test_errors_anywhere(self):
        steps = (
            lambda shop: shop.drive("one", {"x": 2}),
            lambda shop: shop.undo(many=3),
            lambda shop: shop.define("new", ends=("a",)),
            lambda shop: shop.start("other", "late"),
            lambda shop: shop.undo(),
            lambda shop: shop.redo(),
            lambda shop: shop.end("other"),
        )
        for kind in (Stop, ValueError, KeyError, UnknownName, KeyboardInterrupt):
            for many in range(len(steps) + 1):
                shop = self.full()
                before = everything(shop)

                def action(other):
                    for step in steps[:many]:
                        step(other)
                    raise kind("what")

                with self.assertRaises(kind) as held:
                    with shop.trial():
                        action(shop)
                self.assertIs(type(held.exception), kind)
                self.assertEqual(everything(shop), before)
                with self.assertRaises(kind):
                    shop.attempt(action)
                self.assertEqual(everything(shop), before)
                self.assertEqual(shop.redo(), 5)

    def test_errors_of_the_package_pass_on(self):
        shop = self.full()
        before = everything(shop)
        with self.assertRaises(Impossible) as held:
            with shop.trial():
                shop.drive("one", {"x": 2})
                shop.put("late", COPY)
        self.assertEqual(held.exception.time, 0)
        self.assertEqual(everything(shop), before)
        with self.assertRaises(UnknownName) as held:
            shop.attempt(lambda other: [other.end("one"), other.drive("one", {})])
        self.assertEqual(held.exception.name, "one")
        self.assertEqual(everything(shop), before)

    def test_nested(self):
        shop = self.full()
        before = everything(shop)
        with shop.trial():
            shop.drive("one", {"x": 4})
            middle = everything(shop)
            with self.assertRaises(Stop):
                with shop.trial():
                    shop.end("one")
                    shop.undo(many=2)
                    raise Stop("inside")
            self.assertEqual(everything(shop), middle)
            shop.define("more")
        self.assertEqual(str(shop), "3 diagrams, 1 runs, 6 changes")
        shop.undo(many=2)
        shop.drive("one", {"x": 1})
        shop.undo()
        self.assertEqual(everything(shop), before)
        with self.assertRaises(Stop):
            with shop.trial():
                with shop.trial():
                    shop.end("one")
                shop.define("more")
                raise Stop("outside")
        self.assertEqual(everything(shop), before)
        with self.assertRaises(Stop):
            with shop.trial():
                shop.define("more")
                with shop.trial():
                    shop.define("less")
                    with shop.trial():
                        shop.undo(many=4)
                        raise Stop("innermost")
        self.assertEqual(everything(shop), before)

        def inner(other):
            other.define("less")
            raise Stop("in the inner attempt")

        def outer(other):
            other.define("more")
            self.assertIs(type(caught_in(other, "attempt", inner)), Stop)
            return other.start("new", "more")

        self.assertEqual(shop.attempt(outer), 2)
        self.assertEqual(list(shop.names()), ["late", "more", "two"])

    def test_one_trial_entered_again(self):
        shop = self.full()
        trial = shop.trial()
        before = everything(shop)
        with self.assertRaises(Stop):
            with trial:
                shop.define("more")
                with trial:
                    shop.define("less")
                raise Stop("outside")
        self.assertEqual(everything(shop), before)
        with trial:
            shop.define("more")
        with self.assertRaises(Stop):
            with trial:
                shop.define("less")
                raise Stop("again")
        self.assertEqual(list(shop.names()), ["late", "more", "two"])


class LimitTests(unittest.TestCase):
    def too_large(self, limit, shop, method, *some, **keywords):
        error = caught_in(shop, method, *some, **keywords)
        self.assertIs(type(error), TooLarge)
        self.assertTrue(same(error.limit, limit))

    def test_twenty_diagrams_and_runs(self):
        shop = Workshop(2)
        names = ["x" + letter for letter in "abcdefghijklmnopqrstu"]
        for name in names[:20]:
            shop.define(name, ends=("a",))
        self.too_large(20, shop, "define", names[20])
        self.too_large(20, shop, "put", "new", Diagram(2))
        self.assertEqual(shop.define(names[3], ends=("b",)), ())
        for k, name in enumerate(names[:20]):
            self.assertTrue(same(shop.start(name, names[k % 3]), k + 1))
        self.too_large(20, shop, "start", "new", names[0])
        error = caught_in(shop, "start", "xa", names[0])
        self.assertTrue(type(error) is Conflict and error.name == "xa")
        error = caught_in(shop, "start", "new", "none")
        self.assertTrue(type(error) is UnknownName and error.name == "none")
        shop.end("xa")
        self.assertEqual(shop.start("new", "xt"), 20)
        shop.remove("xs")
        self.assertEqual(shop.define("new"), ())
        self.assertEqual(len(shop), 20)

    def test_parts_lines_and_delays_when_expanded(self):
        names = ["l" + letter + other for letter in "abcdef" for other in "abcdefghijklmnopqrst"]
        shop = Workshop(3)
        shop.define("parts", *[Same("a") for _ in range(13)], ends=("a",))
        three = [Use("parts", "x") for _ in range(3)]
        shop.define("forty", *three, Same("y"), ends=("x",))
        self.assertEqual(len(shop.expanded("forty")), 40)
        self.too_large(40, shop, "define", "more", *three, Same("y"), Same("y"))
        self.too_large(40, shop, "define", "parts", *[Same("a") for _ in range(14)], ends=("a",))
        shop.define("lines", Same(*names[:19]), Same("a", "b"), ends=("a",))
        shop.define("sixty", Use("lines", "x"), Use("lines", "y"), Same(*names[20:38]), ends=("x",))
        self.assertEqual(len(shop.expanded("sixty").lines), 60)
        self.too_large(60, shop, "define", "more", Use("lines", "x"), Use("lines", "y"), Same(*names[20:39]))
        self.too_large(60, shop, "define", "lines", Same(*names[:20]), Same("a", "b"), ends=("a",))
        # An end in no part is a line, too.
        self.too_large(60, shop, "define", "more", Use("lines", "x"), Use("lines", "y"), Same(*names[20:38]), ends=("z",))
        shop.define("delays", *[Delay("a", "b") for _ in range(4)], ends=("a", "b"))
        shop.define("twelve", *[Use("delays", "a", "b") for _ in range(3)])
        self.assertEqual(shop.expanded("twelve").delays, 12)
        self.too_large(12, shop, "define", "more", *[Use("delays", "a", "b") for _ in range(3)], Delay("a", "b"))
        self.too_large(12, shop, "define", "delays", *[Delay("a", "b") for _ in range(5)], ends=("a", "b"))
        judge_expanded(self, shop)

    def test_the_first_of_the_limits(self):
        names = ["l" + letter + other for letter in "abcdef" for other in "abcdefghijklmnopqrst"]
        shop = Workshop(3)
        # One of each kind that exceeds its limit when it is used twice.
        shop.define("all", *[Delay("a", "b") for _ in range(12)], *[Same("a") for _ in range(20)], Same(*names[:40]))
        self.too_large(40, shop, "define", "more", Use("all"), Use("all"))
        shop.define("most", *[Delay("a", "b") for _ in range(12)], Same(*names[:40]))
        self.too_large(60, shop, "define", "more", Use("most"), Use("most"))
        shop.define("some", *[Delay("a", "b") for _ in range(12)])
        self.too_large(12, shop, "define", "more", Use("some"), Use("some"))

    def test_the_diagram_itself_comes_before_those_that_need_it(self):
        names = ["l" + letter + other for letter in "abcdef" for other in "abcdefghijklmnopqrst"]
        for changed, user, other in (("m", "a", "z"), ("m", "z", "a")):
            shop = Workshop(3)
            shop.define("leaf", Same(*names[:35]))
            shop.define(changed)
            shop.define(user, *[Use(changed) for _ in range(3)])
            shop.define(other, *[Use(changed) for _ in range(2)], *[Delay("a", "b") for _ in range(9)])
            self.too_large(60, shop, "define", changed, Use("leaf"), Use("leaf"))
            # Of the diagrams that need it, the first one by name.
            many = [Same("x") for _ in range(12)] + [Delay("a", "b") for _ in range(2)]
            self.too_large(40 if user == "a" else 12, shop, "define", changed, *many)
            self.too_large(12 if other == "a" else 60, shop, "define", changed, Same(*names[:22]), Delay("a", "b"), Delay("a", "b"))

    def test_lines_of_a_used_diagram_that_become_one(self):
        """A diagram can have fewer lines than the one that it uses; all that need the changed one are judged."""
        names = ["l" + letter + other for letter in "abcdef" for other in "abcdefghijklmnopqrst"]
        ends = tuple("abcdefgh")
        shop = Workshop(3)
        shop.define("base", ends=())
        shop.define("zz", Use("base"), Same(*names[:20], *ends), ends=ends)
        shop.define("aa", Use("zz", *["x"] * 8))
        shop.define("mm", Use("base"), *[Delay("a", "b") for _ in range(12)])
        # Now zz has 20 + 8 + 33 lines, and aa has 20 + 1 + 33; mm in between has 13 delays.
        self.too_large(12, shop, "define", "base", Same(*names[20:53]), Delay(names[20], names[21]))
        self.too_large(60, shop, "define", "base", Same(*names[20:53]))
        # If aa has too many delays of its own, it comes before zz, although zz is the one that is nearer.
        shop.define("aa", Use("zz", *["x"] * 8), *[Delay("a", "b") for _ in range(12)])
        self.too_large(12, shop, "define", "base", Same(*names[20:53]), Delay(names[20], names[21]))
        shop.remove("mm")
        self.too_large(12, shop, "define", "base", Same(*names[20:53]), Delay(names[20], names[21]))
        shop.define("aa", Use("zz", *["x"] * 8))
        self.too_large(60, shop, "define", "base", Same(*names[20:53]), Delay(names[20], names[21]))
        self.assertEqual(shop.define("base", Same(*names[20:52])), ())
        self.assertEqual(len(shop.expanded("zz").lines), 60)
        self.assertEqual(len(shop.expanded("aa").lines), 53)

    def test_enormous_expansions_are_refused_at_once(self):
        shop = Workshop(2)
        start = time.perf_counter()
        shop.define("xa")
        for before, name in zip("abcdefg", "bcdefgh"):
            shop.define("x" + name, *[Use("x" + before) for _ in range(40)])
        self.assertEqual(str(shop.expanded("xh")), "2: ->")
        self.too_large(40, shop, "define", "xa", Same("a"), Same("a"))
        self.too_large(40, shop, "define", "xa", Same("a"))
        self.assertEqual(shop.define("xa", ends=()), ())
        # Here the first one by name is the largest one.
        shop = Workshop(2)
        shop.define("xh")
        for before, name in zip("hgfedcb", "gfedcba"):
            shop.define("x" + name, *[Use("x" + before) for _ in range(40)])
        self.too_large(40, shop, "define", "xh", Same("a"), Same("a"))
        self.too_large(40, shop, "define", "xh", Same("a"))
        self.assertLess(time.perf_counter() - start, 5)

    def test_a_full_workshop(self):
        """Twenty diagrams in chains of eight with as many parts, lines and delays as allowed, and twenty long runs."""
        some = Numbers(903)
        shop = Workshop(97)
        letters = "abcdefghijklmnopqrst"
        shop.define("xa", *[Delay("a" + one, "a" + two) for one, two in zip(letters[:6], letters[1:7])],
                    Sum("ab", "ac", "ag", "b"), ends=("aa", "b"))
        shop.define("xb", Use("xa", "a", "b"), Use("xa", "b", "c"), Mix("d", a=3, b=5, c=7), ends=("a", "d"))
        for before, name in zip(letters[1:], letters[2:8]):
            shop.define("x" + name, Use("x" + before, "a", "b"), Times(2, "b", "c"), ends=("a", "c"))
        for name in letters[8:]:
            shop.define("x" + name, Use("xg", "a", "b"), Times(some.below(97), "b", "c"), ends=("a", "c"))
        start = time.perf_counter()
        for k, name in enumerate(letters):
            shop.start("r" + name, "x" + letters[19 - k])
            for _ in range(20 if k else 200):
                shop.drive("r" + name, {shop.run_of("r" + name).drivers[0]: some.below(97)})
        self.assertEqual(shop.behaviour_of("xh").depth, 12)
        self.assertEqual(shop.put("xa", shop.diagram_of("xa")), ())
        error = caught_in_fast(shop, "define", "xa", Delay("aa", "b"), ends=("aa", "b"))
        self.assertIs(type(error), Impossible)
        self.assertLess(time.perf_counter() - start, 6)
        error = caught_in_fast(shop, "drive", "ra", {shop.run_of("ra").drivers[0]: 1})
        self.assertTrue(type(error) is TooLarge and error.limit == 200)
        judge_expanded(self, shop)


def caught_in_fast(shop, method, *arguments, **keywords):
    """The error of a call, after which the workshop must look the same."""
    before = str(shop), seen(shop)
    error = caught(lambda: getattr(shop, method)(*arguments, **keywords))
    if (str(shop), seen(shop)) != before:
        raise AssertionError(f"{method} changed something")
    return error


class Model:
    """A workshop by the words of stage 13: all that it does is done anew for every question."""

    def __init__(self, modulus):
        self.modulus = modulus
        self.states = [({}, {})]
        self.at = 0

    def now(self):
        """The sketches of the diagrams, and the pairs (diagram, past) of the runs."""
        return self.states[self.at]

    def change(self, sketches, runs):
        self.states = self.states[:self.at + 1] + [(sketches, runs)]
        self.at += 1

    def plain(self, sketches, name):
        return plain_names(expanded_by_words(sketches, name))

    def behaviour(self, sketches, name):
        return Behaviour.of(Diagram.read(self.plain(sketches, name).text()))

    def needed(self, sketches, name):
        """The names of the diagrams that this one needs, up to 20 steps away."""
        found = set()
        for _ in range(20):
            found |= {part[1] for one in {name} | found for part in sketches[one].parts if part[0] == "Use"}
        return found

    def chain(self, sketches, name):
        return 1 + max([self.chain(sketches, part[1]) for part in sketches[name].parts if part[0] == "Use"], default=0)

    def put(self, name, sketch):
        old, runs = self.now()
        sketches = {**old, name: sketch}
        for part in sketch.parts:
            if part[0] == "Use" and part[1] not in old:
                return (UnknownName, part[1])
        for one in sketches.values():
            for part in one.parts:
                if part[0] == "Use" and len(part) - 2 != len(sketches[part[1]].ends):
                    return (InvalidDiagram, None)
        if name in self.needed(sketches, name):
            return (InvalidDiagram, None)
        if max(self.chain(sketches, one) for one in sketches) > 8:
            return (TooLarge, 8)
        affected = [name] + sorted(one for one in sketches if name in self.needed(sketches, one))
        for one in affected:
            plain = self.plain(sketches, one)
            delays = [part for part in plain.parts if part[0] == "Delay"]
            for size, limit in ((len(plain.parts), 40), (len(plain.lines()), 60), (len(delays), 12)):
                if size > limit:
                    return (TooLarge, limit)
        for run in sorted(runs):
            if runs[run][0] == name and sketch.ends != old[name].ends:
                return (Conflict, run)
        changed = []
        for run in sorted(runs):
            used, past = runs[run]
            if used in affected:
                behaviour = self.behaviour(sketches, used)
                if not behaviour.begins(past):
                    return (Impossible, behaviour.first_impossible(past))
                if behaviour != self.behaviour(old, used):
                    changed.append(run)
        if len(sketches) > 20:
            return (TooLarge, 20)
        self.change(sketches, runs)
        return tuple(changed)

    def remove(self, name):
        sketches, runs = self.now()
        if name not in sketches:
            return (UnknownName, name)
        users = sorted(one for one in sketches if any(part[:2] == ["Use", name] for part in sketches[one].parts))
        users += sorted(run for run in runs if runs[run][0] == name)
        if users:
            return (Conflict, users[0])
        self.change({one: sketches[one] for one in sketches if one != name}, runs)
        return None

    def start(self, run, name):
        sketches, runs = self.now()
        if run in runs:
            return (Conflict, run)
        if name not in sketches:
            return (UnknownName, name)
        self.change(sketches, {**runs, run: (name, ())})
        return len(runs) + 1

    def drive(self, run, values):
        sketches, runs = self.now()
        if run not in runs:
            return (UnknownName, run)
        name, past = runs[run]
        going_on = Run.replayed(self.behaviour(sketches, name), past)
        error = caught(going_on.drive, values)
        if error is not None:
            return (type(error), next(iter(vars(error).values()), None))
        self.change(sketches, {**runs, run: (name, going_on.record)})
        return going_on.record[-1]

    def shorten(self, run, steps):
        sketches, runs = self.now()
        if run not in runs:
            return (UnknownName, run)
        name, past = runs[run]
        if not 0 <= steps <= len(past):
            return (InvalidNumber, steps)
        self.change(sketches, {**runs, run: (name, past[:steps])})
        return len(past) - steps

    def end(self, run):
        sketches, runs = self.now()
        if run not in runs:
            return (UnknownName, run)
        self.change(sketches, {one: runs[one] for one in runs if one != run})
        return len(runs[run][1])

    def undo(self, many):
        if not 0 <= many <= self.at:
            return (InvalidNumber, many)
        self.at -= many
        return self.at

    def redo(self, many):
        if not 0 <= many <= len(self.states) - 1 - self.at:
            return (InvalidNumber, many)
        self.at += many
        return self.at

    def seen(self):
        sketches, runs = self.now()
        return (
            tuple((name, sketches[name].text()) for name in sorted(sketches)),
            tuple((run, *runs[run]) for run in sorted(runs)),
        )


class DrawnTests(unittest.TestCase):
    """Many drawn calls, right and wrong ones, against the model."""

    NAMES = ("pa", "pb", "pc", "pd", "pe", "pf")
    RUNS = ("ra", "rb", "rc", "rd")

    def sketch(self, some, model):
        """A diagram with some of the names in use."""
        parts = []
        for _ in range(some.below(4)):
            lines = some.some_of("abcd", 3)
            kind = some.one_of(("Use", "Use", "Use", "Use", "Delay", "Sum", "Same", "Times", "many", "long"))
            if kind == "Use":
                known = model.now()[0]
                used = some.one_of(sorted(known) if known and some.below(15) else self.NAMES)
                many = len(known[used].ends) if used in known and some.below(8) else some.below(4)
                parts.append([kind, used] + some.some_of("abcd", many))
            elif kind == "many" and ["Delay", "a", "b"] not in parts:
                parts += [["Delay", "a", "b"]] * (5 + some.below(4))
            elif kind == "long":
                letters = "abcdefghijklmnopqrstuvwxyz"
                parts.append(["Same"] + [some.one_of("lm") + letters[k] for k in range(20 + some.below(7))])
            elif kind == "Times":
                parts.append([kind, str(some.below(3))] + lines[:2])
            elif kind != "many":
                parts.append([kind] + lines[:2 if kind == "Delay" else 3])
        return Sketch(3, parts, some.one_of((["a", "b"], ["a", "b"], ["a", "b"], ["a", "b"], ["b", "a"], ["a"], [])))

    def call(self, some, model, shop):
        """One call of both; the pair of what they say."""
        run, name = some.one_of(self.RUNS), some.one_of(self.NAMES)
        kind = some.one_of(("put",) * 10 + ("drive",) * 12 + ("start", "start", "shorten", "end", "remove", "undo", "redo"))
        if kind == "put":
            sketch = self.sketch(some, model)
            return model.put(name, sketch), said(shop.put, name, Diagram.read(sketch.text()))
        if kind in ("undo", "redo"):
            many = some.one_of((0, 1, 1, 2, 3, 9))
            return getattr(model, kind)(many), said(getattr(shop, kind), many=many)
        if kind == "drive":
            values = {"ab"[k]: some.below(3) for k in range(2) if some.below(2)}
            held = model.now()[1]
            if run in held and some.below(4):
                drivers = shop.run_of(run).drivers
                values = {end: some.below(3) * some.below(2) for end in drivers}
            return model.drive(run, values), said(shop.drive, run, values)
        if kind == "start":
            return model.start(run, name), said(shop.start, run, name)
        if kind == "shorten":
            steps = some.below(4)
            return model.shorten(run, steps), said(shop.shorten, run, steps)
        if kind == "end":
            return model.end(run), said(shop.end, run)
        return model.remove(name), said(shop.remove, name)

    def test_drawn_calls(self):
        some = Numbers(904)
        kinds = {}
        for _ in range(30):
            model, shop = Model(3), Workshop(3)
            for before, name in zip(("",) + self.NAMES, self.NAMES):
                sketch = Sketch(3, [["Use", before, "a", "b"]] * (name != "pa"), ["a", "b"])
                self.assertEqual((model.put(name, sketch), shop.put(name, Diagram.read(sketch.text()))), ((), ()))
            for run, name in zip(self.RUNS, self.NAMES[1:]):
                self.assertEqual(model.start(run, name), shop.start(run, name))
            for _ in range(100):
                due, found = self.call(some, model, shop)
                self.assertTrue(same_answer(due, found), (due, found, seen(shop)))
                self.assertEqual(seen(shop), model.seen())
                self.assertEqual(len(shop), len(model.now()[0]))
                word = due[0].__name__ + str(due[1]) * (due[0] is TooLarge) if is_error(due) else "right"
                kinds[word] = kinds.get(word, 0) + 1
            judge_expanded(self, shop)
        for word in ("right", "UnknownName", "InvalidDiagram", "Conflict", "Impossible", "TooLarge12", "TooLarge60", "NotDriving"):
            self.assertTrue(any(one.startswith(word) for one in kinds), kinds)


def is_error(value):
    return isinstance(value, tuple) and value != () and isinstance(value[0], type)


def same_answer(due, found):
    """Whether both said the same; the message of an error is free."""
    if is_error(due) and is_error(found):
        return due[0] is found[0] and same(due[1], found[1])
    return same(due, found)


def said(function, *arguments, **keywords):
    """The result of a call, or the class of its error and what this keeps."""
    try:
        return function(*arguments, **keywords)
    except Exception as error:  # the class is judged by the test
        return (type(error), next(iter(vars(error).values()), None))


class ErrorTests(unittest.TestCase):
    def judge(self, error, kind, kept=None):
        self.assertIs(type(error), kind, error)
        if vars(error):
            (value,) = vars(error).values()
            self.assertTrue(same(value, kept), (value, kept))

    def test_modulus(self):
        for value in ODD + (0, 1, 4, 91, 98, 99, (5,), LATE):
            self.judge(caught(Workshop, value), InvalidModulus)

    def test_names_that_are_not_there(self):
        shop = example_shop()
        for value in NO_NAMES + ("x", "three", "Late"):
            for method in ("remove", "users", "diagram_of", "expanded", "behaviour_of", "run_of", "end"):
                self.judge(caught_in(shop, method, value), UnknownName, value)
            self.judge(caught_in(shop, "drive", value, {"x": 1}), UnknownName, value)
            self.judge(caught_in(shop, "drive", value, None), UnknownName, value)
            self.judge(caught_in(shop, "shorten", value, 0), UnknownName, value)
            self.judge(caught_in(shop, "shorten", value, None), UnknownName, value)
            self.judge(caught_in(shop, "start", "new", value), UnknownName, value)
        for method in ("users", "diagram_of", "expanded", "behaviour_of", "remove"):
            self.judge(caught_in(shop, method, "one"), UnknownName, "one")
        for method in ("run_of", "end"):
            self.judge(caught_in(shop, method, "two"), UnknownName, "two")

    def test_start(self):
        shop = example_shop()
        for value in NO_NAMES:
            for name in ("two", "none", None):
                self.judge(caught_in(shop, "start", value, name), InvalidName)
        for name in ("two", "none", None):
            self.judge(caught_in(shop, "start", "one", name), Conflict, "one")
        # A run may have the name of a diagram.
        self.assertEqual(shop.start("two", "late"), 2)

    def test_drive_and_shorten(self):
        shop = example_shop()
        for value in (None, 5, "x", (("x", 1),), ["x"], True):
            self.judge(caught_in(shop, "drive", "one", value), InvalidOperation)
        for values, name in (({"y": 1}, "y"), ({"x": None, "a": 1}, "a"), ({1: 2, "x": 1}, 1), ({None: 0}, None)):
            self.judge(caught_in(shop, "drive", "one", values), UnknownName, name)
        for values in ({}, {"z": 1}, {"z": None, "x": None}, {"x": 1, "z": 0}):
            error = caught_in(shop, "drive", "one", values)
            self.assertIs(type(error), NotDriving)
            self.assertIs(is_paper_against(shop.behaviour_of("two"), tuple(values), error.paper), True)
        for value in (5, -1, None, True, "1", (1,)):
            self.judge(caught_in(shop, "drive", "one", {"x": value}), InvalidNumber, value)
        for value in (2, -1, None, True, "1", (1,), 10 ** 40):
            self.judge(caught_in(shop, "shorten", "one", value), InvalidNumber, value)

    def test_names_and_diagrams_of_define_and_put(self):
        shop = example_shop()
        for value in NO_NAMES:
            for diagram in (LATE, None, Diagram(3)):
                self.judge(caught_in(shop, "put", value, diagram), InvalidName)
            for parts in ((), (None,), (Times(7, "a", "b"),), (Use("none"),)):
                self.judge(caught_in(shop, "define", value, *parts, ends=None), InvalidName)
        for value in ODD + (Sum("a"), Diagram(3), Diagram(3, Use("none")), "5: -> a", (LATE,), shop):
            self.judge(caught_in_fast(shop, "put", "new", value), InvalidDiagram)
        for value in ODD + (LATE, "Sum a", (Sum("a"),)):
            self.judge(caught_in(shop, "define", "new", Use("none"), value, Times(7, "a", "b"), ends=None), InvalidPart)
        self.judge(caught_in(shop, "define", "new", Use("none"), Times(7, "a", "b"), ends=None), InvalidNumber, 7)
        for value in tuple(one for one in ODD if one != () and one != ("a",)) + (("a", "a"), ["a"], "ab", ("A",), ("a", 1)):
            self.judge(caught_in(shop, "define", "new", Use("none"), ends=value), InvalidEnds)
        many = [Use("none")] * 41
        self.judge(caught_in(shop, "define", "new", *many, ends=tuple("abcdefghi")), TooLarge, 40)
        self.judge(caught_in(shop, "define", "new", *many[:40], ends=tuple("abcdefghi")), TooLarge, 8)
        lines = ["q" + one + two for one in "abcdefgh" for two in "abcdefgh"]
        self.judge(caught_in(shop, "define", "new", Use("none"), Same(*lines[:60]), Same("a")), TooLarge, 60)
        self.judge(caught_in(shop, "define", "new", Use("none"), *[Delay("a", "b")] * 13), TooLarge, 12)

    def faults(self):
        """Parts and ends of a diagram m, each wrong in one of the ways that the list names, in its order."""
        return (
            ([Use("none"), Use("nix")], UnknownName, "none"),
            ([Use("two", "x")], InvalidDiagram, None),
            ([Use("seven", "x", "y")], TooLarge, 8),
            ([Use("wide")] * 2, TooLarge, 40),
            ([Use("lines")], TooLarge, 60),
            ([Use("slow")], TooLarge, 12),
        )

    def busy(self):
        """A workshop in which the diagram m is used and run, and can be wrong in many ways."""
        shop = example_shop()
        shop.define("link", Delay("x", "y"), ends=("x", "y"))
        names = ["link", "aone", "btwo", "cthree", "dfour", "efive", "six", "seven"]
        for before, name in zip(names, names[1:]):
            shop.define(name, Use(before, "x", "y"), ends=("x", "y"))
        lines = ["q" + one + two for one in "abcdefgh" for two in "abcdefgh"]
        shop.define("wide", *[Same("a")] * 21)
        shop.define("lines", Same(*lines[:59]))
        shop.define("slow", *[Delay("a", "b")] * 12)
        shop.define("m", ends=("a", "b"))
        shop.define("user", Use("m", "a", "b"), Delay("a", "c"), Sum("a", "d"), ends=("a", "b"))
        shop.start("r", "m")
        shop.drive("r", {"a": 1, "b": 2})
        shop.start("q", "user")
        return shop

    def test_the_list_in_its_order(self):
        shop = self.busy()
        faults = self.faults()
        for at, (parts, kind, kept) in enumerate(faults):
            for ends, more in ((("a", "b"), []), (("b", "a"), []), (("a", "b"), [Same("a", "b")])):
                for later, _, _ in faults[at:]:
                    if at < 3 or later == parts:
                        every = parts + ([] if later == parts else later) + more
                        self.judge(caught_in_fast(shop, "define", "m", *every, ends=ends), kind, kept)
                        diagram = Diagram.of(5, tuple(every), ends)
                        self.judge(caught_in_fast(shop, "put", "m", diagram), kind, kept)
        self.judge(caught_in_fast(shop, "define", "m", Same("a", "b"), ends=("b", "a")), Conflict, "r")
        self.judge(caught_in_fast(shop, "define", "m", Same("a", "b"), ends=("a", "b")), Impossible, 0)
        self.assertEqual(shop.define("m", Times(2, "a", "b"), ends=("a", "b")), ("q", "r"))

    def test_uses_and_needs(self):
        shop = self.busy()
        for ends in ((), ("a",), ("a", "b", "c")):
            self.judge(caught_in_fast(shop, "define", "m", ends=ends), InvalidDiagram)
        # Its own name is not defined if it is new.
        self.judge(caught_in_fast(shop, "define", "new", Use("new", "a"), ends=("a",)), UnknownName, "new")
        for parts in ([Use("m", "a", "b")], [Use("user", "a", "b")], [Use("m", "a")], [Use("two", "a", "b"), Use("user", "a", "b")]):
            self.judge(caught_in_fast(shop, "define", "m", *parts, ends=("a", "b")), InvalidDiagram)
        for lines in ((), ("a",), ("a", "b", "c")):
            self.judge(caught_in_fast(shop, "define", "new", Use("m", *lines)), InvalidDiagram)
        self.judge(caught_in_fast(shop, "define", "link", Use("seven", "x", "y"), ends=("x", "y")), InvalidDiagram)

    def test_limits_of_a_diagram_that_needs_it(self):
        shop = self.busy()
        shop.end("r")
        self.judge(caught_in_fast(shop, "define", "m", *[Same("a")] * 39, ends=("a", "b")), TooLarge, 40)
        self.judge(caught_in_fast(shop, "define", "m", Use("lines"), ends=("a",)), InvalidDiagram)
        self.judge(caught_in_fast(shop, "define", "m", *[Delay("a", "b")] * 12, ends=("a", "b")), TooLarge, 12)
        # The limits come before runs whose past is not possible.
        shop.start("r", "m")
        shop.drive("r", {"a": 1, "b": 2})
        self.judge(caught_in_fast(shop, "define", "m", *[Delay("a", "b")] * 12, ends=("a", "b")), TooLarge, 12)
        self.judge(caught_in_fast(shop, "define", "m", *[Delay("a", "b")] * 12, ends=("b", "a")), TooLarge, 12)

    def test_a_run_with_another_name_first(self):
        shop = self.busy()
        shop.drive("q", {"a": 0, "b": 0})
        shop.drive("q", {"b": 3, "a": 1})
        # The past of r is refused earlier, but q comes first.
        self.judge(caught_in_fast(shop, "define", "m", Same("a", "b"), ends=("a", "b")), Impossible, 1)
        shop.shorten("q", 1)
        self.judge(caught_in_fast(shop, "define", "m", Same("a", "b"), ends=("a", "b")), Impossible, 0)
        shop.shorten("r", 0)
        self.assertEqual(shop.define("m", Same("a", "b"), ends=("a", "b")), ("q", "r"))

    def test_too_many_diagrams_are_said_last(self):
        shop = self.busy()
        while len(shop) < 20:
            shop.define("zz" + "abcdefghijklmnop"[len(shop) - 10])
        # The last of these is wrong only because of what needs m.
        for parts, kind, kept in self.faults()[:-1]:
            self.judge(caught_in_fast(shop, "define", "new", *parts, ends=("a", "b")), kind, kept)
        self.judge(caught_in_fast(shop, "define", "new", Use("two", "a", "b"), ends=("a", "b")), TooLarge, 20)
        self.judge(caught_in_fast(shop, "put", "new", Diagram(5)), TooLarge, 20)
        self.assertEqual(shop.define("m", Times(2, "a", "b"), ends=("a", "b")), ("q", "r"))


if __name__ == "__main__":
    unittest.main()
