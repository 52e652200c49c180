"""[9.2], [9.3]: driveends.depth.machines."""

import time
import unittest
from itertools import permutations

from driveends.behaviours.behaviours import Behaviour
from driveends.depth.machines import is_machine, machine, outputs
from driveends.diagrams.diagrams import Diagram
from driveends.diagrams.parts import Delay, Sum
from driveends.driving.driving import drives, driving_sets, is_paper_against, why_not
from driveends.errors import InvalidBehaviour, InvalidEnds, InvalidMachine, InvalidModulus, InvalidRecord, NotDriving
from tests.helper import ODD, Numbers, caught, machine_text, same, small_texts, some_matrices, steps_of

ADD = Diagram(5, Sum("a", "b", "c"), ends=("a", "b", "c"))
LATE = Diagram(5, Delay("a", "b"), ends=("a", "b"))
KEEP = Diagram(5, Sum("a", "c", "b"), Delay("b", "c"), ends=("a", "b"))
keep, late, add = Behaviour.of(KEEP), Behaviour.of(LATE), Behaviour.of(ADD)
NO_BEHAVIOURS = ODD + (KEEP, Sum("a"), "behaviour", (keep,), 5, Behaviour)
NO_ENDS = tuple(value for value in ODD if value != ()) + (
    "ab", ["a"], ("a", "a"), ("c",), ("a", "z"), ("A",), ("a", None), (("a",),), {"a": 1}, KEEP,
)
ONE = (("a",), ("b",), ((1,),), ((1,),), ((1,),), ((1,),))


def small_behaviours(many, seed):
    return [Behaviour.of(Diagram.read(text)) for text in small_texts(many, seed)]


def large_behaviours(seed):
    """Behaviours of eight ends and depth 24, and one with a single long generator."""
    some = Numbers(seed)
    shapes = ((97, 4, 7), (2, 2, 13), (5, 3, 9), (97, 6, 5))
    return [
        Behaviour.spanned(modulus, tuple("abcdefgh"), tuple(some.record(modulus, 8, length) for _ in range(rank)))
        for modulus, rank, length in shapes
    ] + [Behaviour.spanned(3, ("a", "b"), (((1, 0),) + ((0, 0),) * 23 + ((0, 1),),))]


def picked(behaviour, vector, ends):
    return tuple(vector[behaviour.ends.index(end)] for end in ends)


def woven(behaviour, drivers, others, inputs, shown):
    """The record of all ends from the values of the drivers and of the others."""
    rows = [dict(zip(drivers + others, u + v)) for u, v in zip(inputs, shown)]
    return tuple(tuple(row[end] for end in behaviour.ends) for row in rows)


def has_form(modulus, value):
    """The form of [9.2], by its words."""
    if type(value) is not tuple or len(value) != 6:
        return False
    drivers, others, *matrices = value
    if type(drivers) is not tuple or type(others) is not tuple or len(drivers + others) > 8:
        return False
    for name in drivers + others:
        if type(name) is not str or not 1 <= len(name) <= 8 or not all("a" <= letter <= "z" for letter in name):
            return False
    if len({*drivers, *others}) < len(drivers + others) or type(value[2]) is not tuple or len(value[2]) > 30:
        return False
    cells = len(value[2])
    shapes = ((cells, cells), (len(drivers), cells), (cells, len(others)), (len(drivers), len(others)))
    for matrix, (many, width) in zip(matrices, shapes):
        if type(matrix) is not tuple or len(matrix) != many:
            return False
        for vector in matrix:
            if type(vector) is not tuple or len(vector) != width:
                return False
            if not all(type(number) is int and 0 <= number < modulus for number in vector):
                return False
    return True


def is_right(behaviour, ends, value):
    """Whether the value has the form and shows one impulse on each driver as the behaviour does."""
    drivers = tuple(end for end in behaviour.ends if end in ends)
    others = tuple(end for end in behaviour.ends if end not in ends)
    if not has_form(behaviour.modulus, value) or value[:2] != (drivers, others):
        return False
    times = len(value[2]) + behaviour.depth + 1
    for driver in range(len(drivers)):
        inputs = tuple(tuple(int(at == driver and t == 0) for at in range(len(drivers))) for t in range(times))
        shown, _ = steps_of(behaviour.modulus, value[2:], inputs)
        if not others:
            shown = ((),) * times
        if not behaviour.begins(woven(behaviour, drivers, others, inputs, shown)):
            return False
    return True


def times_matrix(modulus, vector, rows, width):
    return tuple(sum(factor * row[at] for factor, row in zip(vector, rows)) % modulus for at in range(width))


def other_basis(modulus, value, k, j, factor):
    """The same machine, whose cell k is held as itself plus factor times cell j."""
    drivers, others, stay, enter, show, direct = value
    many = len(stay)
    there = [[int(a == b) for b in range(many)] for a in range(many)]
    back = [[int(a == b) for b in range(many)] for a in range(many)]
    there[j][k], back[j][k] = factor, -factor % modulus
    # New cells are the old ones times `there`.
    moved = [times_matrix(modulus, row, there, many) for row in stay]
    stay = tuple(times_matrix(modulus, row, moved, many) for row in back)
    enter = tuple(times_matrix(modulus, row, there, many) for row in enter)
    show = tuple(times_matrix(modulus, row, show, len(others)) for row in back)
    return (drivers, others, stay, enter, show, direct)


def with_more_cells(some, modulus, value, unseen, unmoved):
    """The same machine with cells that are never shown, and with cells that nothing ever changes from 0."""
    drivers, others, stay, enter, show, direct = value
    cells, more = len(stay), unseen + unmoved

    def drawn(many):
        return tuple(some.below(modulus) for _ in range(many))

    # Old cells and drivers go into unseen cells; unmoved ones go anywhere.
    stay = tuple(row + drawn(unseen) + (0,) * unmoved for row in stay)
    stay += tuple((0,) * cells + drawn(unseen) + (0,) * unmoved for _ in range(unseen))
    stay += tuple(drawn(cells + more) for _ in range(unmoved))
    enter = tuple(row + drawn(unseen) + (0,) * unmoved for row in enter)
    show += ((0,) * len(others),) * unseen + tuple(drawn(len(others)) for _ in range(unmoved))
    return (drivers, others, stay, enter, show, direct)


def changed_numbers(modulus, value):
    """The same machine with one number changed, for each number in it."""
    for place in range(2, 6):
        for k, row in enumerate(value[place]):
            for at, number in enumerate(row):
                for other in ((number + 1) % modulus, number + modulus, bool(number), None):
                    changed = row[:at] + (other,) + row[at + 1:]
                    matrix = value[place][:k] + (changed,) + value[place][k + 1:]
                    yield value[:place] + (matrix,) + value[place + 1:]


def broken_forms(value):
    """Values that do not have the form: names twice, other lengths and numbers of vectors, lists, and so on."""
    drivers, others = value[:2]
    yield from (value[:5], value + ((),), list(value), (value,), value[::-1], {0: value})
    for names in (["a"], "a", None, ("A",), ("a", "a"), ("a", 1), (None,), ("toolongname",), (("a",),), ("",), ("a b",)):
        yield (names, others) + value[2:]
        yield (drivers, names) + value[2:]
    if drivers:
        yield (drivers, drivers) + value[2:]
        yield (drivers[:-1], others + drivers[-1:]) + value[2:]
    for place in range(2, 6):
        matrix = value[place]
        wide = len(matrix[0]) if matrix else 1
        wrong = [list(matrix), None, 5, "", matrix + ((0,) * wide,), matrix + ((),), {}]
        if matrix:
            wrong += [
                matrix[1:], matrix[:-1], (matrix[0] + (0,),) + matrix[1:], (list(matrix[0]),) + matrix[1:],
                (None,) + matrix[1:], tuple(row + (0,) for row in matrix),
            ]
            if wide:
                wrong += [(matrix[0][1:],) + matrix[1:], tuple(row[1:] for row in matrix)]
        for one in wrong:
            if one != matrix or type(one) is not tuple:
                yield value[:place] + (one,) + value[place + 1:]


class ExampleTests(unittest.TestCase):
    def test_examples(self):
        self.assertTrue(same(machine(add, ("c", "a")), (("a", "c"), ("b",), (), ((), ()), (), ((4,), (1,)))))
        value = (("a",), ("b",), ((0, 0), (0, 0)), ((1, 1),), ((1,), (0,)), ((0,),))
        self.assertIs(is_machine(late, ("a",), value), True)
        self.assertTrue(same(outputs(5, ONE, ((1,), (0,), (4,))), ((1,), (1,), (0,))))


class MachineTests(unittest.TestCase):
    def judge(self, some, behaviour, ends, length):
        """The machine for these ends, judged by drawn streams on the drivers."""
        found = machine(behaviour, ends)
        drivers, others = found[:2]
        self.assertTrue(has_form(behaviour.modulus, found))
        self.assertEqual(drivers, tuple(end for end in behaviour.ends if end in ends))
        self.assertEqual(others, tuple(end for end in behaviour.ends if end not in ends))
        self.assertEqual(len(found[2]), behaviour.depth)
        inputs = some.record(behaviour.modulus, len(drivers), length)
        shown, _ = steps_of(behaviour.modulus, found[2:], inputs)
        shown = shown if others and (found[4] or found[5]) else ((0,) * len(others),) * length
        record = woven(behaviour, drivers, others, inputs, shown)
        self.assertTrue(behaviour.begins(record))
        self.assertTrue(same(outputs(behaviour.modulus, found, inputs), shown))
        self.assertTrue(same(machine(behaviour, ends), found))
        self.assertIs(is_machine(behaviour, ends, found), True)
        self.assertIs(is_machine(behaviour, ends[::-1], found), True)
        return record

    def test_every_driving_set_in_any_order(self):
        some = Numbers(401)
        for behaviour in small_behaviours(120, 402):
            for ends in driving_sets(behaviour):
                for order in permutations(ends):
                    self.judge(some, behaviour, order, 8)

    def test_machines_that_were_drawn(self):
        some = Numbers(403)
        for _ in range(40):
            modulus, cells, drivers = some.one_of((2, 3, 97)), some.below(5), 1 + some.below(3)
            names, others = tuple("uvw"[:drivers]), ("x", "y")
            matrices = some_matrices(some, modulus, cells, drivers, 2)
            behaviour = Behaviour.of(Diagram.read(machine_text(modulus, names, others, matrices)))
            self.assertIs(is_machine(behaviour, names, (names, others) + matrices), True)
            self.assertLessEqual(len(machine(behaviour, names)[2]), cells)
            inputs = some.record(modulus, drivers, 12)
            due, _ = steps_of(modulus, matrices, inputs)
            self.assertEqual(outputs(modulus, machine(behaviour, names), inputs), due)
            for ends in driving_sets(behaviour):
                other = machine(behaviour, ends)
                self.assertTrue(same(is_machine(behaviour, ends, other), True))
                self.assertEqual(len(other[2]), behaviour.depth)

    def test_unlike_driving_sets_continue_one_another(self):
        some = Numbers(404)
        for behaviour in small_behaviours(80, 405) + large_behaviours(406)[:2]:
            sets = list(driving_sets(behaviour))[:6]
            for ends in sets:
                record = self.judge(some, behaviour, ends, 6)
                for other in sets:
                    value = machine(behaviour, other)
                    inputs = tuple(picked(behaviour, vector, value[0]) for vector in record)
                    more = inputs + some.record(behaviour.modulus, len(value[0]), 4)
                    shown = outputs(behaviour.modulus, value, more)
                    whole = woven(behaviour, value[0], value[1], more, shown)
                    self.assertEqual(whole[:6], record)
                    self.assertTrue(behaviour.begins(whole))

    def test_edges(self):
        for ends in ((), ("a",), ("c", "a", "b")):
            silent, whole = Behaviour.silent(97, ends), Behaviour.whole(97, ends)
            self.assertTrue(same(machine(silent, ()), ((), ends, (), (), (), ())))
            value = (ends, (), (), ((),) * len(ends), (), ((),) * len(ends))
            self.assertTrue(same(machine(whole, ends[::-1]), value))
            self.assertEqual(outputs(97, machine(silent, ()), ((), ())), ((0,) * len(ends),) * 2)
            self.assertEqual(outputs(97, value, ((5,) * len(ends),) * 3), ((),) * 3)

    def test_large(self):
        some = Numbers(407)
        for behaviour in large_behaviours(408):
            self.assertEqual(behaviour.depth, 24)
            start = time.perf_counter()
            for ends in list(driving_sets(behaviour))[:3]:
                self.judge(some, behaviour, ends, 40)
            self.assertLess(time.perf_counter() - start, 4)


class JudgeTests(unittest.TestCase):
    def test_other_cells(self):
        some = Numbers(409)
        for behaviour in small_behaviours(60, 410) + large_behaviours(411)[1:2]:
            modulus = behaviour.modulus
            for ends in list(driving_sets(behaviour))[:2]:
                value = machine(behaviour, ends)
                for _ in range(3):
                    if len(value[2]) > 1:
                        k, j = some.one_of(((0, 1), (1, 0), (len(value[2]) - 1, 0)))
                        value = other_basis(modulus, value, k, j, some.below(modulus))
                        self.assertIs(is_machine(behaviour, ends, value), True)
                    room = 30 - len(value[2])
                    more = with_more_cells(some, modulus, value, some.below(3), some.below(3))
                    self.assertIs(is_machine(behaviour, ends, more), True)
                    for unseen in (0, room // 2, room):
                        full = with_more_cells(some, modulus, value, unseen, room - unseen)
                        self.assertEqual(len(full[2]), 30)
                        self.assertIs(is_machine(behaviour, ends, full), True)
                        over = with_more_cells(some, modulus, value, unseen, room + 1 - unseen)
                        self.assertIs(is_machine(behaviour, ends, over), False)

    def test_one_number_changed(self):
        some = Numbers(412)
        seen = {True: 0, False: 0}
        for behaviour in small_behaviours(50, 413):
            for ends in list(driving_sets(behaviour))[:2]:
                value = machine(behaviour, ends)
                more = with_more_cells(some, behaviour.modulus, value, some.below(2), some.below(2))
                for one in [value, more]:
                    for changed in changed_numbers(behaviour.modulus, one):
                        right = is_right(behaviour, ends, changed)
                        seen[right] += 1
                        self.assertIs(is_machine(behaviour, ends, changed), right)
        self.assertTrue(seen[True] > 50 and seen[False] > 50)

    def test_machines_that_differ_as_late_as_possible(self):
        """A chain of cells shows the impulse one time too late, at the last time that can tell."""
        for depth in (0, 1, 5, 24):
            zeros = ((0, 0),) * max(0, depth - 1)
            record = ((1, 0),) + zeros + ((0, 1),) if depth else ((1, 0),)
            behaviour = Behaviour.spanned(7, ("a", "b"), (record,))
            right = machine(behaviour, ("a",))
            for cells in (depth + 1, 29, 30):
                # So many cells one behind the other; each one shows nothing but for what is due and the last one.
                stay = tuple(tuple(int(b == a + 1) for b in range(cells)) for a in range(cells))
                enter = (tuple(int(b == 0) for b in range(cells)),)
                due = tuple((int(a + 1 == depth),) for a in range(cells))
                value = (("a",), ("b",), stay, enter, due, right[5])
                self.assertIs(is_machine(behaviour, ("a",), value), True)
                wrong = (("a",), ("b",), stay, enter, due[:-1] + ((due[-1][0] + 1,),), right[5])
                self.assertIs(is_machine(behaviour, ("a",), wrong), False)
                self.assertIs(is_right(behaviour, ("a",), wrong), False)

    def test_other_ends(self):
        for behaviour in small_behaviours(60, 414):
            sets = list(driving_sets(behaviour))[:3]
            for ends in sets:
                value = machine(behaviour, ends)
                for other in sets:
                    self.assertIs(is_machine(behaviour, other, value), other == ends)
                for changed in ((value[1], value[0]), (value[0][::-1], value[1]), (value[0], value[1][::-1]), (("q",), value[1])):
                    if changed != value[:2]:
                        self.assertIs(is_machine(behaviour, ends, changed + value[2:]), False)

    def test_broken_forms(self):
        for behaviour in small_behaviours(25, 415):
            for ends in list(driving_sets(behaviour))[:2]:
                for value in broken_forms(machine(behaviour, ends)):
                    self.assertIs(is_machine(behaviour, ends, value), is_right(behaviour, ends, value), value)
                for value in ODD + (behaviour, KEEP, 5, "machine"):
                    self.assertIs(is_machine(behaviour, ends, value), False)


class OutputTests(unittest.TestCase):
    def test_by_definition(self):
        some = Numbers(416)
        for _ in range(80):
            modulus, cells, drivers, others = some.one_of((2, 3, 97)), some.below(6), some.below(4), some.below(5)
            matrices = some_matrices(some, modulus, cells, drivers, others)
            value = (tuple("uvwt"[:drivers]), tuple("abcde"[:others])) + matrices
            inputs = some.record(modulus, drivers, some.below(9))
            due, _ = steps_of(modulus, matrices, inputs)
            due = due if matrices[2] or matrices[3] else ((0,) * others,) * len(inputs)
            self.assertTrue(same(outputs(modulus, value, inputs), due))
            self.assertTrue(same(outputs(modulus, value, ()), ()))

    def test_long_inputs_and_many_cells(self):
        some = Numbers(417)
        value = (tuple("abcd"), tuple("efgh")) + some_matrices(some, 97, 30, 4, 4)
        inputs = some.record(97, 4, 200)
        start = time.perf_counter()
        due, _ = steps_of(97, value[2:], inputs)
        self.assertEqual(outputs(97, value, inputs), due)
        self.assertLess(time.perf_counter() - start, 3)
        self.assertIs(type(caught(outputs, 97, value, inputs + inputs[:1])), InvalidRecord)
        self.assertEqual(len(outputs(97, (tuple("abcdefgh"), (), (), ((),) * 8, (), ((),) * 8), ((1,) * 8,))), 1)


class ErrorTests(unittest.TestCase):
    def test_behaviour_ends_and_driving(self):
        for call in (machine, lambda behaviour, ends: is_machine(behaviour, ends, ONE)):
            call.__name__ = "call"
            for value in NO_BEHAVIOURS:
                for ends in (("a",), None, ("a", "a")):
                    self.assertIs(type(caught(call, value, ends)), InvalidBehaviour)
            for ends in NO_ENDS:
                self.assertIs(type(caught(call, keep, ends)), InvalidEnds)
            for behaviour in small_behaviours(25, 418) + [late]:
                for many in range(3):
                    for ends in permutations(behaviour.ends, many):
                        error = caught(call, behaviour, ends)
                        if drives(behaviour, ends):
                            self.assertIsNone(error)
                        else:
                            self.assertIs(type(error), NotDriving)
                            self.assertTrue(same(error.paper, why_not(behaviour, ends)))
                            self.assertIs(is_paper_against(behaviour, ends, error.paper), True)

    def test_modulus_machine_and_inputs(self):
        no_modulus = ODD + (0, 1, 4, 91, 98, 99, -5, (5,))
        no_inputs = tuple(one for one in ODD if one != ()) + (
            [(1,)], ([1],), ((1, 1),), ((),), ((5,),), ((True,),), ((-1,),), ((1,), None), ((1,),) * 201, KEEP,
        )
        no_machines = ODD + (KEEP, keep, 5, "machine") + tuple(
            one for one in list(broken_forms(ONE)) + list(broken_forms(machine(add, ("a", "b")))) if not has_form(5, one)
        ) + tuple(one for one in changed_numbers(5, ONE) if not has_form(5, one))
        for modulus in no_modulus:
            for value in (ONE, None):
                for inputs in (((1,),), None):
                    self.assertIs(type(caught(outputs, modulus, value, inputs)), InvalidModulus)
        for value in no_machines:
            for inputs in (((1,),), (), None):
                self.assertIs(type(caught(outputs, 5, value, inputs)), InvalidMachine, value)
        for inputs in no_inputs:
            self.assertIs(type(caught(outputs, 5, ONE, inputs)), InvalidRecord, inputs)

    def test_limits_of_the_form(self):
        cells = 30
        zeros = ((0,) * cells,) * cells
        value = (("a",), ("b",), zeros, ((0,) * cells,), ((0,),) * cells, ((2,),))
        self.assertEqual(outputs(5, value, ((1,),)), ((2,),))
        more = (("a",), ("b",), ((0,) * 31,) * 31, ((0,) * 31,), ((0,),) * 31, ((2,),))
        self.assertIs(type(caught(outputs, 5, more, ((1,),))), InvalidMachine)
        nine = (tuple("abcdefghi"), (), (), ((),) * 9, (), ((),) * 9)
        self.assertIs(type(caught(outputs, 5, nine, ())), InvalidMachine)
        self.assertIs(type(caught(outputs, 5, (tuple("abcde"), tuple("efg")) + nine[2:], ())), InvalidMachine)
        for modulus, kind in ((5, None), (3, InvalidMachine), (4, InvalidModulus)):
            error = caught(outputs, modulus, ONE[:5] + (((3,),),), ((1,),))
            self.assertIs(None if error is None else type(error), kind)


if __name__ == "__main__":
    unittest.main()
