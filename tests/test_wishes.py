"""[12.1] to [12.3]: driveends.wishes.wishes."""

import time
import unittest

from driveends.behaviours.behaviours import Behaviour
from driveends.behaviours.comparisons import is_within
from driveends.diagrams.diagrams import Diagram
from driveends.diagrams.parts import Delay, Same, Sum, Times
from driveends.errors import InvalidBehaviour, InvalidEnds, TooLarge
from driveends.operations.operations import beside, hidden, meet, plus, renamed, reordered
from driveends.operations.turned import dual
from driveends.wishes.wishes import bounds, helper_ends, is_wish_paper, shown, widest_helper, wish
from tests.helper import ODD, Numbers, Sketch, caught, check_faults, same, sketch_pairs, sketches_by_modulus

ADD = Diagram(5, Sum("a", "b", "c"), ends=("a", "b", "c"))
LATE = Diagram(5, Delay("a", "b"), ends=("a", "b"))
KEEP = Diagram(5, Sum("a", "c", "b"), Delay("b", "c"), ends=("a", "b"))
A, L, K = Behaviour.of(ADD), Behaviour.of(LATE), Behaviour.of(KEEP)
PART = Behaviour.of(Diagram(5, Delay("a", "b"), Same("c", "d"), ends=("a", "c", "b", "d")))
GOAL = Behaviour.of(Diagram(5, Delay("a", "m"), Delay("m", "c"), ends=("a", "c")))
PAIR = Behaviour.of(Diagram(5, Times(2, "a", "c"), ends=("a", "c")))
NO_BEHAVIOURS = ODD + (KEEP, Sum("a"), "behaviour", (K,), 5, Behaviour)


def of(sketch):
    return Behaviour.of(Diagram.read(sketch.text()))


def state_of(behaviour):
    return behaviour.modulus, behaviour.ends, behaviour.settled_generators, behaviour.settled_duals


def far(depth, ends=("a", "b"), modulus=5):
    """The behaviour in which the second end is what the first one was so many steps before."""
    record = ((1, 0),) + ((0, 0),) * (depth - 1) + ((0, 1),) if depth else ((1, 1),)
    return Behaviour.spanned(modulus, ends, (record,))


class Question:
    """A part, the ends of a goal, and sketches of what belongs to them."""

    def __init__(self, some, part, other):
        self.part = part
        chosen = sorted(part.ends, key=lambda end: some.below(100))
        self.goal_ends = chosen[:some.below(len(chosen) + 1)]
        self.free = [end for end in part.ends if end not in self.goal_ends]
        self.other = other

    def on(self, ends, letter):
        """The other sketch with as many of its lines as ends as there are ends, under these names."""
        lines = self.other.lines() + [letter + letter + "z" + end for end in ends]
        wide = Sketch(self.other.modulus, self.other.parts, lines[:len(ends)]).all_apart(letter)
        return wide.renamed(dict(zip(wide.ends, ends)))

    def together(self, sketch, ends):
        """The diagram of the part and this one."""
        apart = self.part.apart("p")
        return Sketch(self.part.modulus, apart.parts + sketch.parts, ends)


def questions(many, seed):
    some = Numbers(seed)
    found = []
    for group in sketches_by_modulus(many, seed + 1, 7):
        for k in range(len(group)):
            part = group[k]
            # All lines as ends, or only those of the diagram.
            if some.below(2) and len(part.lines()) <= 5:
                part = Sketch(part.modulus, part.parts, part.lines())
            found.append(Question(some, part, some.one_of(group)))
    return found


class ExampleTests(unittest.TestCase):
    def test_examples(self):
        found = [helper_ends(PART, GOAL), shown(PART, GOAL, Behaviour.of(Diagram(5, Delay("b", "d"), ends=("b", "d")))) == GOAL]
        self.assertTrue(same(found, [("b", "d"), True]))
        inner, outer = bounds(A, PAIR)
        found = [inner.rank, inner.has(((1, 1),)), outer.rank, widest_helper(A, PAIR).rank]
        self.assertTrue(same(found, [1, True, 2, 1]))
        found = [wish(PART, GOAL)[0], wish(A, PAIR)[0], is_wish_paper(A, PAIR, ("inner", ((3, 3),)))]
        self.assertTrue(same(found, ["helper", "inner", True]))


class ShownTests(unittest.TestCase):
    def test_against_diagrams(self):
        for question in questions(120, 801):
            part = of(question.part)
            goal_ends, free = question.goal_ends, question.free
            helper_sketch, goal_sketch = question.on(free, "h"), question.on(goal_ends, "g")
            helper, goal = of(helper_sketch), of(goal_sketch)
            before = state_of(part), state_of(goal), state_of(helper)
            self.assertEqual(helper_ends(part, goal), tuple(free))
            found = shown(part, goal, helper)
            self.assertEqual(found, of(question.together(helper_sketch, goal_ends)))
            self.assertEqual(found.ends, tuple(goal_ends))
            inner, outer = bounds(part, goal)
            zeros = question.part.with_parts(*[["Sum", end] for end in free], ends=goal_ends)
            self.assertEqual(inner, of(zeros))
            self.assertEqual(outer, of(question.part.with_parts(ends=goal_ends)))
            widest = widest_helper(part, goal)
            self.assertEqual(widest, of(question.together(goal_sketch, free)))
            self.assertEqual(widest.ends, tuple(free))
            self.assertLessEqual(widest.depth, part.depth + goal.depth)
            # Every helper shows a behaviour between the bounds; the ends of both are those of the goal.
            self.assertTrue(is_within(inner, found) and is_within(found, outer))
            self.assertEqual(shown(part, goal, Behaviour.silent(part.modulus, tuple(free))), inner)
            self.assertEqual(shown(part, goal, Behaviour.whole(part.modulus, tuple(free))), outer)
            self.assertEqual(shown(part, goal, widest), plus(inner, meet(goal, outer)))
            self.assertTrue(same((state_of(part), state_of(goal), state_of(helper)), before))

    def test_order_of_the_goal(self):
        found = shown(PART, reordered(GOAL, ("c", "a")), far(1, ("b", "d")))
        self.assertEqual(found, reordered(GOAL, ("c", "a")))
        inner, outer = bounds(A, reordered(PAIR, ("c", "a")))
        self.assertEqual((inner.ends, outer.ends), (("c", "a"), ("c", "a")))

    def test_without_free_ends_and_without_goal_ends(self):
        empty = Behaviour.whole(5, ())
        for part in (A, L, K, empty):
            self.assertEqual(helper_ends(part, part), ())
            self.assertEqual(bounds(part, part), (part, part))
            self.assertEqual(shown(part, part, empty), part)
            self.assertEqual(widest_helper(part, part), empty)
            self.assertEqual(wish(part, part), ("helper", empty))
            self.assertEqual(helper_ends(part, empty), part.ends)
            self.assertEqual(bounds(part, empty), (empty, empty))
            self.assertEqual(shown(part, empty, part), empty)
            self.assertEqual(widest_helper(part, empty), part)
            self.assertIs(is_wish_paper(part, empty, ("helper", Behaviour.silent(5, part.ends))), True)
        self.assertEqual(wish(L, K)[0], "inner")
        self.assertEqual(wish(L, Behaviour.silent(5, ("a", "b")))[0], "inner")
        self.assertEqual(wish(Behaviour.silent(5, ("a", "b")), L)[0], "outer")


class WishTests(unittest.TestCase):
    def judge(self, part, goal):
        """The paper must be right, by its words."""
        word, value = paper = wish(part, goal)
        inner, outer = bounds(part, goal)
        if word == "helper":
            self.assertEqual(value.ends, helper_ends(part, goal))
            self.assertEqual(shown(part, goal, value), goal)
        elif word == "inner":
            self.assertTrue(inner.has(value) and not goal.has(value))
        else:
            self.assertEqual(word, "outer")
            self.assertTrue(goal.has(value) and not outer.has(value))
        self.assertIs(word == "helper", is_within(inner, goal) and is_within(goal, outer))
        self.assertIs(is_wish_paper(part, goal, paper), True)
        again = wish(part, goal)
        self.assertTrue(again[0] == word and again[1] == value)
        return paper

    def test_drawn_wishes(self):
        seen = {"helper": 0, "inner": 0, "outer": 0}
        for question in questions(200, 803):
            part = of(question.part)
            helper, goal = of(question.on(question.free, "h")), of(question.on(question.goal_ends, "g"))
            inner, outer = bounds(part, goal)
            for one in (goal, shown(part, goal, helper), inner, outer, meet(goal, outer), plus(inner, meet(goal, outer))):
                seen[self.judge(part, one)[0]] += 1
            # What some helper shows can be reached.
            self.assertEqual(wish(part, shown(part, goal, helper))[0], "helper")
        self.assertTrue(min(seen.values()) > 30, seen)

    def test_papers_of_the_other_kinds_are_refused(self):
        some = Numbers(805)
        for question in questions(120, 806):
            part = of(question.part)
            free, ends = tuple(question.free), tuple(question.goal_ends)
            goal = shown(part, of(question.on(ends, "g")), of(question.on(free, "h")))
            if some.below(2):
                goal = of(question.on(ends, "g"))
            inner, outer = bounds(part, goal)
            modulus = part.modulus
            records = [()] + [some.record(modulus, len(ends), 1 + some.below(3)) for _ in range(4)]
            for one in (inner, outer, goal):
                records += list(one.settled_generators)
            for record in records:
                self.assertIs(is_wish_paper(part, goal, ("inner", record)), inner.has(record) and not goal.has(record))
                self.assertIs(is_wish_paper(part, goal, ("outer", record)), goal.has(record) and not outer.has(record))
                self.assertIs(is_wish_paper(part, goal, ("helper", record)), False)
            helpers = [Behaviour.silent(modulus, free), Behaviour.whole(modulus, free), widest_helper(part, goal)]
            helpers += [of(question.on(free, "h")), dual(helpers[2])]
            for _ in range(3):
                spanning = tuple(some.record(modulus, len(free), 1 + some.below(2)) for _ in range(some.below(3)))
                helpers.append(Behaviour.spanned(modulus, free, spanning))
            fulfilled = False
            for helper in helpers:
                right = shown(part, goal, helper) == goal
                fulfilled = fulfilled or right
                self.assertIs(is_wish_paper(part, goal, ("helper", helper)), right)
                if len(free) > 1:
                    other = reordered(helper, free[::-1])
                    self.assertIs(is_wish_paper(part, goal, ("helper", other)), False)
            self.assertTrue(not fulfilled or wish(part, goal)[0] == "helper")

    def test_helpers_that_are_not_the_widest(self):
        # Behind a part that ignores it, every helper will do.
        part = beside(L, Behaviour.whole(5, ("c", "d")))
        for helper in (Behaviour.silent(5, ("c", "d")), Behaviour.whole(5, ("c", "d")), renamed(K, a="c", b="d")):
            self.assertIs(is_wish_paper(part, L, ("helper", helper)), True)
        self.assertEqual(widest_helper(part, L), Behaviour.whole(5, ("c", "d")))
        for helper in (Behaviour.silent(3, ("c", "d")), Behaviour.whole(3, ("c", "d")), Behaviour.whole(5, ("d", "c")), L):
            self.assertIs(is_wish_paper(part, L, ("helper", helper)), False)
        self.assertIs(is_wish_paper(PART, GOAL, ("helper", far(1, ("b", "d")))), True)
        for helper in (far(2, ("b", "d")), far(0, ("b", "d")), far(1, ("d", "b")), far(1, ("b", "d"), 3), far(1)):
            self.assertIs(is_wish_paper(PART, GOAL, ("helper", helper)), False)

    def test_every_other_value(self):
        for value in ODD + (K, KEEP, 5, "helper", ("helper",), ("inner", ()), ("outer", ()), ("helper", K, K), ["helper", K]):
            self.assertIs(is_wish_paper(PART, GOAL, value), False)
            for word in ("helper", "inner", "outer", "", 0, None):
                self.assertIs(is_wish_paper(PART, GOAL, (word, value)), False)
                self.assertIs(is_wish_paper(A, PAIR, (word, value)), False)
        whole = Behaviour.whole(5, ("a", "b"))
        for word in ("helper", "inner", "", "Outer", 0, None, ("outer",)):
            self.assertIs(is_wish_paper(L, whole, ("outer", ((0, 1),))), True)
            self.assertIs(is_wish_paper(L, whole, (word, ((0, 1),))), False)
            self.assertIs(is_wish_paper(A, PAIR, (word, ((3, 3),))), word == "inner")
        self.assertIs(is_wish_paper(A, PAIR, ["inner", ((3, 3),)]), False)
        self.assertIs(is_wish_paper(A, PAIR, ("inner", [(3, 3)])), False)
        self.assertIs(is_wish_paper(A, PAIR, ("inner", ((3, 3),), ())), False)

    def test_wishes_for_parts_put_together(self):
        """[0.13]: what a part shows with a second one can be wished for with either of them."""
        for one, other in sketch_pairs(60, 807, 3):
            first, second = of(one.all_apart("p")), of(other.all_apart("q"))
            both = beside(first, second)
            self.assertEqual(wish(both, first)[0], "helper")
            self.assertEqual(shown(both, first, second), first)
            self.assertEqual(shown(both, second, first), second)


class LimitTests(unittest.TestCase):
    def too_large(self, function, *some):
        error = caught(function, *some)
        self.assertIs(type(error), TooLarge)
        self.assertTrue(same(error.limit, 24))

    def test_depths_of_24_and_25(self):
        same_line = Behaviour.of(Diagram(5, Same("c", "d"), ends=("c", "d")))
        part = reordered(beside(far(12), same_line), ("a", "c", "b", "d"))
        goal = far(24, ("a", "c"))
        self.assertEqual(shown(part, goal, far(12, ("b", "d"))), goal)
        self.too_large(shown, part, goal, far(13, ("b", "d")))
        self.assertEqual(widest_helper(part, goal), far(12, ("b", "d")))
        back = far(12, ("c", "a"))
        deepest = reordered(far(24, ("d", "b")), ("b", "d"))
        self.assertEqual(widest_helper(part, back), deepest)
        self.assertEqual(wish(part, back), ("helper", deepest))
        more = far(13, ("c", "a"))
        self.too_large(widest_helper, part, more)
        self.too_large(wish, part, more)
        self.assertEqual([one.depth for one in bounds(part, more)], [0, 0])
        self.assertIs(is_wish_paper(part, goal, ("helper", far(13, ("b", "d")))), False)
        self.assertIs(is_wish_paper(part, goal, ("helper", far(12, ("b", "d")))), True)
        # A gap is shown also where the widest helper would be too large.
        self.assertEqual(wish(far(24), far(24, ("b", "a")))[0], "inner")

    def test_large(self):
        some = Numbers(808)
        ends = tuple("abcdefgh")
        for modulus, rank, length in ((97, 4, 7), (2, 2, 13), (97, 1, 25), (5, 6, 5)):
            part = Behaviour.spanned(modulus, ends, tuple(some.record(modulus, 8, length) for _ in range(rank)))
            helper = Behaviour.spanned(modulus, ("b", "d", "f", "h"), (some.record(modulus, 4, 3), some.record(modulus, 4, 2)))
            start = time.perf_counter()
            for goal in (hidden(part, ("b", "d", "f", "h")), Behaviour.whole(modulus, ("g", "a"))):
                for function in (bounds, widest_helper, wish):
                    self.assertIn(type(caught(function, part, goal)), (type(None), TooLarge))
            goal = hidden(part, ("b", "d", "f", "h"))
            self.assertIn(type(caught(shown, part, goal, helper)), (type(None), TooLarge))
            self.assertIn(is_wish_paper(part, goal, ("helper", helper)), (True, False))
            self.assertLess(time.perf_counter() - start, 4)


class ErrorTests(unittest.TestCase):
    def test_part_and_goal(self):
        faults = [("part", value, InvalidBehaviour, None) for value in NO_BEHAVIOURS]
        faults += [("goal", value, InvalidBehaviour, None) for value in NO_BEHAVIOURS + (far(1, ("a", "c"), 3), far(1, ("x", "y"), 3))]
        faults += [("goal", value, InvalidEnds, None) for value in (far(1, ("a", "x")), Behaviour.whole(5, ("x",)))]
        good = {"part": PART, "goal": GOAL, "value": ("helper", far(1, ("b", "d")))}
        for function in (helper_ends, bounds, widest_helper, wish):
            check_faults(self, function, ("part", "goal"), good, faults)
        check_faults(self, is_wish_paper, ("part", "goal", "value"), good, faults)
        good["value"] = None
        check_faults(self, is_wish_paper, ("part", "goal", "value"), good, faults)

    def test_helper(self):
        good = {"part": PART, "goal": GOAL, "helper": far(1, ("b", "d"))}
        faults = [("part", value, InvalidBehaviour, None) for value in NO_BEHAVIOURS]
        faults += [("goal", value, InvalidBehaviour, None) for value in NO_BEHAVIOURS + (far(1, ("a", "c"), 3),)]
        faults += [("goal", far(1, ("a", "x")), InvalidEnds, None)]
        faults += [("helper", value, InvalidBehaviour, None) for value in NO_BEHAVIOURS + (far(1, ("b", "d"), 3), far(1, ("x", "y"), 3))]
        helpers = (far(1, ("d", "b")), far(1), Behaviour.whole(5, ("b",)), Behaviour.whole(5, ("b", "d", "a")), GOAL)
        faults += [("helper", value, InvalidEnds, None) for value in helpers]
        check_faults(self, shown, ("part", "goal", "helper"), good, faults)


if __name__ == "__main__":
    unittest.main()
