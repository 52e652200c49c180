"""[0.12], [0.13], [7.1] to [7.4]: driveends.driving.driving."""

import time
import unittest
from itertools import combinations, permutations

from driveends.behaviours.behaviours import Behaviour
from driveends.diagrams.diagrams import Diagram
from driveends.diagrams.parts import Delay, Mix, Same, Sum
from driveends.driving.driving import (
    at_once, drives, driving_sets, exchanges, is_paper_against, leading_ends, led_ends, why_not,
)
from driveends.errors import InvalidBehaviour, InvalidEnds, NotDriving, UnknownName
from tests.helper import ODD, Numbers, all_records, all_vectors, caught, same, small_texts, span

ADD = Diagram(5, Sum("a", "b", "c"), ends=("a", "b", "c"))
LATE = Diagram(5, Delay("a", "b"), ends=("a", "b"))
KEEP = Diagram(5, Sum("a", "c", "b"), Delay("b", "c"), ends=("a", "b"))
NO_BEHAVIOURS = ODD + (KEEP, Sum("a"), "behaviour", (Behaviour.of(KEEP),), 5, Behaviour)
NO_ENDS = tuple(value for value in ODD if value != ()) + (
    "ab", ["a"], ("a", "a"), ("c",), ("a", "z"), ("A",), ("a", None), (("a",),), {"a": 1}, 1, ("a", 0), KEEP,
)


def subsets(ends):
    """All sets of ends, by their positions in ascending order."""
    places = sorted(some for many in range(len(ends) + 1) for some in combinations(range(len(ends)), many))
    return [tuple(ends[at] for at in some) for some in places]


def small_behaviours(many, seed):
    return [Behaviour.of(Diagram.read(text)) for text in small_texts(many, seed)]


def shown(behaviour, vector, ends):
    return tuple(vector[behaviour.ends.index(end)] for end in ends)


def drives_by_words(behaviour, ends):
    """Each choice of values for the ends is found in exactly one vector of the first space."""
    vectors = span(behaviour.modulus, len(behaviour), behaviour.first_space)
    return sorted(shown(behaviour, vector, ends) for vector in vectors) == all_vectors(behaviour.modulus, len(ends))


class ExampleTests(unittest.TestCase):
    def test_examples(self):
        late, keep, add = Behaviour.of(LATE), Behaviour.of(KEEP), Behaviour.of(ADD)
        found = [drives(late, ends) for ends in (("a",), ("b",), ("a", "b"), ())]
        self.assertTrue(same(found, [True, False, False, False]))
        found = [list(driving_sets(add)), list(driving_sets(keep))]
        self.assertTrue(same(found, [[("a", "b"), ("a", "c"), ("b", "c")], [("a",), ("b",)]]))
        found = [
            why_not(keep, ("a",)), is_paper_against(late, ("b",), ("late", ((2, 0), (0, 2)))),
            is_paper_against(late, ("b",), ("tied", {"b": 3})),
        ]
        self.assertTrue(same(found, [None, True, True]))
        found = [at_once(add, ("a", "c")), at_once(late, ("a",))]
        self.assertTrue(same(found, [{"b": {"a": 4, "c": 1}}, {"b": {}}]))
        found = [exchanges(add, ("a", "b"), "c"), exchanges(late, ("a",), "b")]
        self.assertTrue(same(found, [("a", "b"), ()]))
        found = [led_ends(late), leading_ends(late), leading_ends(add)]
        self.assertTrue(same(found, [("b",), ("a",), ()]))


class DrivingTests(unittest.TestCase):
    def test_every_set_in_every_order(self):
        for behaviour in small_behaviours(150, 91):
            right = []
            for ends in subsets(behaviour.ends):
                is_right = drives_by_words(behaviour, ends)
                for order in permutations(ends):
                    self.assertIs(drives(behaviour, order), is_right)
                if is_right:
                    right.append(ends)
            found = list(driving_sets(behaviour))
            self.assertTrue(same(found, right))
            self.assertEqual(list(driving_sets(behaviour)), found)
            self.assertNotEqual(found, [])
            self.assertTrue(all(len(ends) == behaviour.rank for ends in found))

    def test_streams_on_a_driving_set_fix_the_beginning(self):
        for behaviour in small_behaviours(60, 92):
            modulus, width = behaviour.modulus, len(behaviour)
            if modulus ** (2 * width) > 800:
                continue
            begun = [record for record in all_records(modulus, width, 2) if behaviour.begins(record)]
            for ends in subsets(behaviour.ends):
                seen = sorted(tuple(shown(behaviour, vector, ends) for vector in record) for record in begun)
                self.assertIs(drives(behaviour, ends), seen == all_records(modulus, len(ends), 2))

    def test_whole_silent_and_no_ends(self):
        for ends in ((), ("a",), ("c", "a", "b"), tuple("abcdefgh")):
            whole, silent = Behaviour.whole(97, ends), Behaviour.silent(97, ends)
            self.assertEqual(list(driving_sets(whole)), [ends])
            self.assertEqual(list(driving_sets(silent)), [()])
            self.assertIs(drives(whole, ends[::-1]), True)
            self.assertIs(drives(silent, ()), True)
            self.assertIs(drives(whole, ends[1:]), ends == ())
            self.assertEqual((led_ends(whole), leading_ends(whole)), ((), ends))
            self.assertEqual((led_ends(silent), leading_ends(silent)), (ends, ()))
            self.assertEqual(at_once(whole, ends[::-1]), {})
            self.assertTrue(same(at_once(silent, ()), {end: {} for end in ends}))

    def test_eight_ends(self):
        some = Numbers(93)
        ends = tuple("habcdefg")
        for rank in range(9):
            behaviour = Behaviour.spanned(97, ends, tuple(some.record(97, 8, 2) for _ in range(rank)))
            start = time.perf_counter()
            found = list(driving_sets(behaviour))
            self.assertEqual(found, sorted(found, key=lambda one: [ends.index(end) for end in one]))
            for columns in combinations(ends, rank):
                self.assertIs(drives(behaviour, columns), columns in found)
                paper = why_not(behaviour, columns)
                self.assertEqual(paper is None, columns in found)
                self.assertIs(is_paper_against(behaviour, columns, paper), paper is not None)
            self.assertLess(time.perf_counter() - start, 2)


class PaperTests(unittest.TestCase):
    def judged(self, behaviour, ends, paper):
        """Whether the paper keeps the definition."""
        word, value = paper
        vectors = span(behaviour.modulus, len(behaviour), behaviour.first_space)
        if word == "late":
            return value in behaviour and value != () and any(value[0]) and not any(shown(behaviour, value[0], ends))
        if word == "tied":
            keys = sorted(value)
            if not keys or not all(key in ends and 0 < value[key] < behaviour.modulus for key in keys):
                return False
            return all(
                sum(value[end] * shown(behaviour, vector, (end,))[0] for end in keys) % behaviour.modulus == 0 for vector in vectors
            )
        return False

    def test_papers_that_are_returned(self):
        for behaviour in small_behaviours(150, 94):
            vectors = span(behaviour.modulus, len(behaviour), behaviour.first_space)
            for ends in subsets(behaviour.ends):
                for order in (ends, ends[::-1]):
                    paper = why_not(behaviour, order)
                    self.assertEqual(paper is None, drives(behaviour, order))
                    if paper is None:
                        continue
                    self.assertTrue(self.judged(behaviour, ends, paper))
                    self.assertIs(is_paper_against(behaviour, order, paper), True)
                    self.assertTrue(same(why_not(behaviour, order), paper))
                    late = any(any(vector) and not any(shown(behaviour, vector, ends)) for vector in vectors)
                    self.assertEqual(paper[0], "late" if late else "tied")
                    if paper[0] == "tied":
                        self.assertEqual(list(paper[1]), sorted(paper[1]))
                    if len(ends) < behaviour.rank:
                        self.assertEqual(paper[0], "late")

    def test_which_papers_exist(self):
        for behaviour in small_behaviours(60, 95):
            modulus, width = behaviour.modulus, len(behaviour)
            if modulus > 3 or modulus ** (3 * width) > 800:
                continue
            finite = [record for length in range(4) for record in all_records(modulus, width, length) if record in behaviour]
            for ends in subsets(behaviour.ends):
                late = [record for record in finite if is_paper_against(behaviour, ends, ("late", record))]
                self.assertEqual(late, [one for one in finite if self.judged(behaviour, ends, ("late", one))])
                tables = [
                    dict(zip(some, numbers)) for some in subsets(ends)
                    for numbers in all_vectors(modulus, len(some))
                ]
                tied = [table for table in tables if is_paper_against(behaviour, ends, ("tied", table))]
                self.assertEqual(tied, [one for one in tables if self.judged(behaviour, ends, ("tied", one))])
                self.assertEqual(bool(tied or why_not(behaviour, ends)), not drives(behaviour, ends))
                if drives(behaviour, ends):
                    self.assertEqual((late, tied), ([], []))
                if len(ends) == behaviour.rank and not drives(behaviour, ends):
                    self.assertTrue(tied and why_not(behaviour, ends)[0] == "late")
                if len(ends) > behaviour.rank:
                    self.assertTrue(tied)

    def test_one_thing_otherwise(self):
        late, keep = Behaviour.of(LATE), Behaviour.of(KEEP)
        right = (("late", ((2, 0), (0, 2))), ("late", ((1, 0), (3, 1), (0, 3))), ("tied", {"b": 3}), ("tied", {"b": 1}))
        for paper in right:
            self.assertIs(is_paper_against(late, ("b",), paper), True)
            for ends in ((), ("a",), ("a", "b"), ("b", "a")):
                self.assertIs(is_paper_against(late, ends, paper), self.judged(late, ends, paper))
            self.assertIs(is_paper_against(keep, ("b",), paper), False)
            self.assertIs(is_paper_against(keep, ("a",), paper), False)
            self.assertIs(is_paper_against(late, ("b",), list(paper)), False)
            self.assertIs(is_paper_against(late, ("b",), paper + (1,)), False)
            self.assertIs(is_paper_against(late, ("b",), paper[:1]), False)
            self.assertIs(is_paper_against(late, ("b",), paper[::-1]), False)
        for value in NO_BEHAVIOURS + (
            ("late", ((2, 0), (0, 1))), ("late", ((2, 0),)), ("late", ((0, 0), (2, 0), (0, 2))), ("late", ()), ("late", None),
            ("late", [(2, 0), (0, 2)]), ("late", ([2, 0], [0, 2])), ("late", ((True, 0), (0, 1))), ("Late", ((2, 0), (0, 2))),
            ("late", ((2, 0), (0, 2), (0,))), ("late", {"b": 3}), ("late", ((2, 0), (0, 2)) + ((0, 0),) * 199), ("tied", {}),
            ("tied", {"a": 3}), ("tied", {"a": 1, "b": 3}), ("tied", {"b": 0}), ("tied", {"b": 5}), ("tied", {"b": True}),
            ("tied", {"b": -1}), ("tied", {"b": None}), ("tied", {"b": 3, "c": 1}), ("tied", {"b": 3, 0: 1}), ("tied", (("b", 3),)),
            ("tied", None), ("tied", ((2, 0), (0, 2))), ("tied", {"B": 3}), ("tied", {("b",): 3}), ("", ()), (None, None), late,
        ):
            self.assertIs(is_paper_against(late, ("b",), value), False, value)
        self.assertIs(is_paper_against(late, ("b",), ("late", ((2, 0), (0, 2)) + ((0, 0),) * 198)), True)
        self.assertIs(is_paper_against(late, ("a", "b"), ("tied", {"b": 3})), True)
        add = Behaviour.of(ADD)
        self.assertIs(is_paper_against(add, ("a", "b", "c"), ("tied", {"c": 4, "a": 1, "b": 1})), True)
        self.assertIs(is_paper_against(add, ("a", "b", "c"), ("tied", {"c": 4, "a": 1})), False)


class ActingTests(unittest.TestCase):
    def test_against_all_vectors(self):
        for behaviour in small_behaviours(150, 96):
            modulus = behaviour.modulus
            vectors = span(modulus, len(behaviour), behaviour.first_space)
            for ends in driving_sets(behaviour):
                found = at_once(behaviour, ends)
                self.assertTrue(same(at_once(behaviour, ends[::-1]), found))
                others = [end for end in behaviour.ends if end not in ends]
                self.assertEqual(list(found), others)
                for end in others:
                    self.assertEqual(list(found[end]), [one for one in ends if one in found[end]])
                    self.assertTrue(all(type(number) is int and 0 < number < modulus for number in found[end].values()))
                    for vector in vectors:
                        total = sum(factor * shown(behaviour, vector, (one,))[0] for one, factor in found[end].items())
                        self.assertEqual(total % modulus, shown(behaviour, vector, (end,))[0])

    def test_exchanges(self):
        for behaviour in small_behaviours(150, 97):
            found = list(driving_sets(behaviour))
            for ends in found:
                for name in behaviour.ends:
                    if name in ends:
                        error = caught(exchanges, behaviour, ends, name)
                        self.assertIs(type(error), UnknownName)
                        self.assertEqual(error.name, name)
                        continue
                    taken = exchanges(behaviour, ends[::-1], name)
                    right = [one for one in ends if drives(behaviour, tuple(set(ends) - {one} | {name}))]
                    self.assertTrue(same(taken, tuple(right)))
                    self.assertEqual(taken, tuple(at_once(behaviour, ends)[name]))

    def test_chains_of_exchanges(self):
        for behaviour in small_behaviours(100, 98):
            found = list(driving_sets(behaviour))
            for start in found:
                for goal in found:
                    ends = start
                    while set(ends) != set(goal):
                        name = next(end for end in goal if end not in ends)
                        taken = [end for end in exchanges(behaviour, ends, name) if end not in goal]
                        self.assertNotEqual(taken, [])
                        ends = tuple(end for end in ends if end != taken[0]) + (name,)
                        self.assertTrue(drives(behaviour, ends))

    def test_led_and_leading_ends(self):
        for behaviour in small_behaviours(200, 99):
            found = list(driving_sets(behaviour))
            led = tuple(end for end in behaviour.ends if not any(end in ends for ends in found))
            leading = tuple(end for end in behaviour.ends if all(end in ends for ends in found))
            self.assertTrue(same(led_ends(behaviour), led))
            self.assertTrue(same(leading_ends(behaviour), leading))

    def test_one_part_more(self):
        # Each driving set of what is left is part of one that drove before.
        for text in small_texts(80, 100):
            diagram = Diagram.read(text)
            before = [set(ends) for ends in driving_sets(Behaviour.of(diagram))]
            for part in (Sum("a"), Same("a", "b"), Mix("b", c=1, a=1), Delay("a", "b") if diagram.delays < 12 else Sum("b")):
                for ends in driving_sets(Behaviour.of(diagram.with_part(part))):
                    self.assertTrue(any(set(ends) <= one for one in before))


class ErrorTests(unittest.TestCase):
    FUNCTIONS = (
        drives, why_not, at_once, lambda *some: is_paper_against(*some, None), lambda *some: exchanges(*some, None),
    )

    def raised(self, kind, function, *some):
        error = caught(function, *some)
        self.assertIs(type(error), kind, some)
        return error

    def test_behaviours_and_ends(self):
        keep = Behaviour.of(KEEP)
        for function in self.FUNCTIONS:
            for value in NO_BEHAVIOURS:
                self.raised(InvalidBehaviour, function, value, ("a",))
                self.raised(InvalidBehaviour, function, value, None)
            for value in NO_ENDS:
                self.raised(InvalidEnds, function, keep, value)
            self.raised(InvalidEnds, function, Behaviour.silent(5, ()), ("a",))
        for function in (driving_sets, led_ends, leading_ends):
            for value in NO_BEHAVIOURS:
                self.raised(InvalidBehaviour, function, value)
        with self.assertRaises(InvalidBehaviour):
            next(driving_sets(None))

    def test_sets_that_do_not_drive(self):
        for behaviour in small_behaviours(60, 101):
            for ends in subsets(behaviour.ends):
                if drives(behaviour, ends):
                    continue
                for error in (
                    self.raised(NotDriving, at_once, behaviour, ends), self.raised(NotDriving, exchanges, behaviour, ends, None),
                    self.raised(NotDriving, exchanges, behaviour, ends[::-1], "a"),
                ):
                    self.assertIs(is_paper_against(behaviour, ends, error.paper), True)

    def test_names(self):
        add = Behaviour.of(ADD)
        for name in ODD + ("a", "b", "d", "C", "c ", ("c",), ["c"], {"c": 1}, ADD, add, Sum("c")):
            error = self.raised(UnknownName, exchanges, add, ("b", "a"), name)
            self.assertIs(error.name, name)


if __name__ == "__main__":
    unittest.main()
