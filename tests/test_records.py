"""[4.1] to [4.5]: driveends.diagrams.records."""

import time
import unittest

from driveends.behaviours.behaviours import Behaviour
from driveends.diagrams import records
from driveends.diagrams.diagrams import Diagram, equations
from driveends.diagrams.parts import Delay, Mix, Same, Sum, Use
from driveends.diagrams.records import filling, is_bar, is_filling, moments
from driveends.errors import InvalidDiagram, InvalidRecord, TooLarge, UnknownName
from tests.helper import (
    ODD, Numbers, Wires, all_records, all_vectors, caught, claims_of, combine, kernel, lengths_to_try, same, small_texts,
)

ADD = Diagram(5, Sum("a", "b", "c"), ends=("a", "b", "c"))
LATE = Diagram(5, Delay("a", "b"), ends=("a", "b"))
KEEP = Diagram(5, Sum("a", "c", "b"), Delay("b", "c"), ends=("a", "b"))
CHAIN = Diagram.read("2: Delay a b, Delay b c, Delay c d, Sum a d e -> e a")


def keeps_filling(diagram, record, table, finite):
    """The definition of a filling, entry by entry."""
    modulus, many, length = diagram.modulus, diagram.delays, len(record)
    if not isinstance(table, dict) or set(table) != set(diagram.lines):
        return False
    for numbers in table.values():
        if not isinstance(numbers, tuple) or len(numbers) != length + 2 * many:
            return False
        if not all(type(number) is int and 0 <= number < modulus for number in numbers):
            return False

    def value(line, moment):
        return table[line][moment + many] if -many <= moment < length + many else 0

    for moment in range(-many, length + many):
        for part in diagram.parts:
            for now, before in claims_of(str(part)):
                total = sum(factor * value(line, moment) for line, factor in now.items())
                total += sum(factor * value(line, moment - 1) for line, factor in before.items())
                if total % modulus:
                    return False
        for at, end in enumerate(diagram.ends):
            if 0 <= moment < length:
                if value(end, moment) != record[moment][at]:
                    return False
            elif (moment < 0 or finite) and value(end, moment) != 0:
                return False
    return True


def keeps_bar(diagram, record, multipliers, finite):
    """The definition of a bar, entry by entry."""
    modulus, many, length = diagram.modulus, diagram.delays, len(record)
    claims = [claim for part in diagram.parts for claim in claims_of(str(part))]
    if not isinstance(multipliers, tuple) or len(multipliers) != length + 2 * many:
        return False
    for vector in multipliers:
        if not isinstance(vector, tuple) or len(vector) != len(claims):
            return False
        if not all(type(number) is int and 0 <= number < modulus for number in vector):
            return False
    totals = {}
    for index, vector in enumerate(multipliers):
        for number, claim in zip(vector, claims):
            for shift in (0, 1):
                for line, factor in claim[shift].items():
                    place = (line, index - many - shift)
                    totals[place] = (totals.get(place, 0) + number * factor) % modulus
    for (line, moment), total in totals.items():
        if total and moment >= -many:
            if line not in diagram.ends or not finite and moment >= length:
                return False
    shown = sum(
        totals.get((end, moment), 0) * record[moment][at] for moment in range(length) for at, end in enumerate(diagram.ends)
    )
    return shown % modulus != 0


def small_diagrams(many, seed):
    return [Diagram.read(text) for text in small_texts(many, seed)]


def some_questions(many, seed, most=3, limit=70):
    """Small diagrams, each with some of its records."""
    some = Numbers(seed + 1)
    for diagram in small_diagrams(many, seed):
        width = len(diagram.ends)
        for length in lengths_to_try(diagram.modulus, width, most, limit):
            tried = all_records(diagram.modulus, width, length)
            for record in tried if len(tried) < 10 else some.some_of(tried, 8):
                yield diagram, record


class ExampleTests(unittest.TestCase):
    def test_examples(self):
        found = [filling(LATE, ((0, 1),))[0], filling(LATE, ((1, 0),))[0], filling(LATE, ((1, 0),), finite=True)[0]]
        self.assertEqual(found, ["bar", "filling", "bar"])
        found = filling(KEEP, ((1, 1), (0, 1), (4, 0)), finite=True)
        self.assertTrue(same(found, ("filling", {"a": (0, 1, 0, 4, 0), "b": (0, 1, 1, 0, 0), "c": (0, 0, 1, 1, 0)})))
        table = {"a": (0, 1, 3), "b": (0, 0, 1)}
        self.assertEqual([is_filling(LATE, ((1, 0),), table), is_filling(LATE, ((1, 0),), table, finite=True)], [True, False])
        found = [
            is_bar(LATE, ((0, 1),), ((0,), (1,), (0,))), is_bar(LATE, ((1, 0),), ((0,), (0,), (1,))),
            is_bar(LATE, ((1, 0),), ((0,), (0,), (1,)), finite=True),
        ]
        self.assertEqual(found, [True, False, True])
        found = list(moments(KEEP, ((1, 1), (4, 0)), "c", "b", finite=True))
        self.assertTrue(same(found, [(-1, (0, 0)), (0, (0, 1)), (1, (1, 0)), (2, (0, 0))]))

    def test_constant(self):
        self.assertTrue(same(records.MAX_MOMENTS, 30))


class FillingTests(unittest.TestCase):
    def check(self, diagram, record, finite, right):
        word, value = filling(diagram, record, finite=finite)
        note = (str(diagram), record, finite, value)
        self.assertEqual(word, "filling" if right else "bar", note)
        if right:
            self.assertTrue(keeps_filling(diagram, record, value, finite), note)
            self.assertEqual(list(value), list(diagram.lines))
        else:
            self.assertTrue(keeps_bar(diagram, record, value, finite), note)
        self.assertIs(is_filling(diagram, record, value, finite=finite), right)
        self.assertIs(is_bar(diagram, record, value, finite=finite), not right)
        self.assertTrue(same(filling(diagram, record, finite=finite), (word, value)))

    def test_against_linear_equations(self):
        for diagram in small_diagrams(200, 31):
            wires = Wires(str(diagram))
            width = len(diagram.ends)
            for length in lengths_to_try(diagram.modulus, width, 3, 30):
                for finite in (False, True):
                    right = wires.records(length, finite)
                    for record in all_records(diagram.modulus, width, length):
                        self.check(diagram, record, finite, record in right)

    def test_against_the_behaviour(self):
        for diagram, record in some_questions(150, 33, most=5, limit=2000):
            behaviour = Behaviour.of(diagram)
            self.check(diagram, record, False, behaviour.begins(record))
            self.check(diagram, record, True, behaviour.has(record))

    def test_edges(self):
        empty = Diagram(5)
        self.assertTrue(same(filling(empty, ((),) * 3), ("filling", {})))
        self.assertTrue(same(filling(Diagram(5, ends=("a",)), ((3,),)), ("filling", {"a": (3,)})))
        self.assertTrue(same(filling(LATE, ()), ("filling", {"a": (0, 0), "b": (0, 0)})))
        self.assertEqual(filling(CHAIN, ((0, 0), (1, 1), (0, 0), (0, 0), (1, 0)), finite=True)[0], "filling")
        self.assertEqual(filling(CHAIN, ((0, 0), (1, 1), (0, 0), (0, 0), (0, 0)), finite=True)[0], "bar")
        seen_later = Diagram.read("5: Delay a b, Sum b -> a")
        self.assertEqual([filling(seen_later, ((number,),))[0] for number in range(3)], ["filling", "bar", "bar"])
        self.assertEqual(filling(Diagram.read("5: Delay a b, Delay b a -> a"), ((0,), (1,)))[0], "bar")

    def test_thirty_vectors(self):
        for length in (29, 30):
            record = ((1, 1),) + ((0, 1),) * (length - 2) + ((4, 0),)
            self.check(KEEP, record, True, True)
            self.check(KEEP, record[:-1] + ((4, 1),), False, False)


class JudgeTests(unittest.TestCase):
    def test_fillings_that_others_made(self):
        some = Numbers(41)
        for diagram, record in some_questions(60, 42):
            wires = Wires(str(diagram))
            places = [(moment, line) for line in diagram.lines for moment in range(-diagram.delays, len(record) + diagram.delays)]
            for finite in (False, True):
                word, value = filling(diagram, record, finite=finite)
                if word == "bar":
                    continue
                # Any filling plus any row that fits the equations, with zeros at all known places.
                fitting = self.silent_rows(wires, places, len(record), finite)
                for _ in range(3):
                    factors = tuple(some.below(diagram.modulus) for _ in fitting)
                    added = dict(zip(places, combine(diagram.modulus, len(places), fitting, factors)))
                    table = {
                        line: tuple(
                            (number + added[k - diagram.delays, line]) % diagram.modulus for k, number in enumerate(value[line])
                        ) for line in sorted(diagram.lines, reverse=True)
                    }
                    self.assertTrue(keeps_filling(diagram, record, table, finite))
                    self.assertIs(is_filling(diagram, record, table, finite=finite), True)

    def silent_rows(self, wires, places, length, finite):
        """A basis of the rows of all lines that fit the equations, and in which the ends are 0 where they are known."""
        equations_of_places = []
        for moment in range(-wires.delays, length + wires.delays):
            for now, before in wires.claims:
                row = [now.get(line, 0) if place == moment else 0 for place, line in places]
                row = [
                    entry + (before.get(line, 0) if place == moment - 1 else 0) for entry, (place, line) in zip(row, places)
                ]
                equations_of_places.append(row)
        for k, (moment, line) in enumerate(places):
            if line in wires.ends and (moment < length or finite):
                equations_of_places.append([int(j == k) for j in range(len(places))])
        return kernel(wires.modulus, len(places), equations_of_places)

    def changed_numbers(self, value, modulus):
        """A tuple with one number changed, one more or less, or in another form, and other kinds of values."""
        for k in range(len(value)):
            for number in (modulus, -1, True, False, None, "1", (0,), (value[k] + 1) % modulus if type(value[k]) is int else 0):
                yield value[:k] + (number,) + value[k + 1:]
            yield value[:k] + value[k + 1:]
        yield value + (0,)
        yield (0,) + value
        yield list(value)
        yield from ODD

    def test_changed_fillings(self):
        for diagram, record in some_questions(20, 44):
            for finite in (False, True):
                word, value = filling(diagram, record, finite=finite)
                if word == "bar":
                    continue
                for line in diagram.lines:
                    for numbers in self.changed_numbers(value[line], diagram.modulus):
                        self.judge(diagram, record, {**value, line: numbers}, finite)
                    self.judge(diagram, record, {name: value[name] for name in value if name != line}, finite)
                    fewer = {name: value[name] for name in value if name != line}
                    self.judge(diagram, record, {**fewer, "zz": value[line]}, finite)
                self.judge(diagram, record, {**value, "zz": (0,) * (len(record) + 2 * diagram.delays)}, finite)
                for one in ODD + (tuple(value.items()), [value], ("filling", value), Sum("a"), diagram):
                    self.judge(diagram, record, one, finite)

    def test_changed_bars(self):
        for diagram, record in some_questions(40, 45):
            for finite in (False, True):
                word, value = filling(diagram, record, finite=finite)
                if word == "filling":
                    continue
                for k in range(len(value)):
                    for vector in self.changed_numbers(value[k], diagram.modulus):
                        self.judge(diagram, record, value[:k] + (vector,) + value[k + 1:], finite)
                    self.judge(diagram, record, value[:k] + value[k + 1:], finite)
                self.judge(diagram, record, value + value[:1], finite)
                for number in range(diagram.modulus):
                    scaled = tuple(tuple(number * entry % diagram.modulus for entry in vector) for vector in value)
                    self.judge(diagram, record, scaled, finite)
                for one in ODD + (list(value), ("bar", value), tuple(map(list, value)), Sum("a"), diagram):
                    self.judge(diagram, record, one, finite)

    def test_bars_that_others_made(self):
        some = Numbers(47)
        found = 0
        for diagram, record in some_questions(60, 46):
            many = len(equations(diagram))
            length = len(record) + 2 * diagram.delays
            for _ in range(4):
                value = tuple(
                    tuple(some.below(diagram.modulus) if some.below(3) == 0 else 0 for _ in range(many)) for _ in range(length)
                )
                found += self.judge(diagram, record, value, some.below(2) == 0)
        for text, record in (("2: Sum a, Sum b, Same a b -> a b", ((1, 0),)), ("2: Delay a b, Sum b -> a b", ((0, 1),))):
            diagram = Diagram.read(text)
            many, length = len(equations(diagram)), len(record) + 2 * diagram.delays
            for flat in all_vectors(2, many * length):
                value = tuple(flat[k * many:(k + 1) * many] for k in range(length))
                for finite in (False, True):
                    found += self.judge(diagram, record, value, finite)
        self.assertGreater(found, 20)

    def judge(self, diagram, record, value, finite):
        """Both judges must find what the definitions say."""
        right = keeps_bar(diagram, record, value, finite)
        self.assertIs(is_bar(diagram, record, value, finite=finite), right, (str(diagram), record, value))
        self.assertIs(
            is_filling(diagram, record, value, finite=finite), keeps_filling(diagram, record, value, finite),
            (str(diagram), record, value),
        )
        return right

    def test_exchanged_records(self):
        for diagram, record in some_questions(60, 48):
            finite = len(record) == 2
            word, value = filling(diagram, record, finite=finite)
            for other in all_records(diagram.modulus, len(diagram.ends), len(record))[:40]:
                self.judge(diagram, other, value, finite)
            self.judge(diagram, record, value, not finite)


class MomentTests(unittest.TestCase):
    def test_against_the_filling(self):
        some = Numbers(50)
        for diagram, record in some_questions(80, 51):
            for finite in (False, True):
                word, value = filling(diagram, record, finite=finite)
                times = range(-diagram.delays, len(record) + diagram.delays)
                choices = [diagram.lines, (), diagram.lines[::-1]]
                if diagram.lines:
                    choices.append(tuple(some.some_of(diagram.lines, 3)))
                for lines in choices:
                    found = list(moments(diagram, record, *lines, finite=finite))
                    if word == "bar":
                        self.assertEqual(found, [])
                        continue
                    self.assertEqual([moment for moment, _ in found], list(times))
                    table = {line: tuple(vector[lines.index(line)] for _, vector in found) for line in lines}
                    for line in lines:
                        self.assertEqual(table[line], value[line])
                    for _, vector in found:
                        self.assertIs(type(vector), tuple)
                        self.assertEqual(len(vector), len(lines))

    def test_a_line_twice(self):
        found = list(moments(KEEP, ((1, 1),), "b", "b"))
        self.assertEqual(found[:2], [(-1, (0, 0)), (0, (1, 1))])
        self.assertEqual([moment for moment, _ in found], [-1, 0, 1])
        self.assertTrue(all(vector[0] == vector[1] for _, vector in found))


class ErrorTests(unittest.TestCase):
    NOT_DIAGRAMS = ODD + (str(KEEP), Sum("a"), (KEEP,), Behaviour.of(KEEP), Diagram(5, Use("a")), KEEP.with_part(Use("a", "b")))
    NOT_RECORDS = tuple(value for value in ODD if value != ()) + (
        [(1, 1)], ([1, 1],), ((1, 1), None), ((1, 1), (1,)), ((1, 1, 1),), ((),), ((1, 5),), ((1, -1),), ((True, 1),), (1, 1),
        ((0, 0),) * 201, "ab", {(1, 1): 1}, KEEP,
    )
    FUNCTIONS = (
        lambda *some: filling(*some), lambda *some: filling(*some, finite=True), lambda *some: is_filling(*some, {}),
        lambda *some: is_filling(*some, [None], finite=True), lambda *some: is_bar(*some, ()),
        lambda *some: is_bar(*some, None, finite=True), lambda *some: list(moments(*some)),
        lambda *some: list(moments(*some, "A", None)), lambda *some: next(moments(*some, "zz", finite=True)),
    )

    def raised(self, kind, function, *some):
        error = caught(function, *some)
        self.assertIs(type(error), kind, some)
        return error

    def test_diagrams_and_records(self):
        for function in self.FUNCTIONS:
            for value in self.NOT_DIAGRAMS:
                self.raised(InvalidDiagram, function, value, ())
                self.raised(InvalidDiagram, function, value, None)
            for value in self.NOT_RECORDS:
                self.raised(InvalidRecord, function, KEEP, value)
            for length in (31, 32, 200):
                self.assertEqual(self.raised(TooLarge, function, KEEP, ((0, 0),) * length).limit, 30)
        for function in self.FUNCTIONS[:7]:
            self.assertIsNone(caught(function, KEEP, ((0, 0),) * 30))

    def test_unknown_names(self):
        barred = ((1, 0),)
        for value in (None, True, 0, "", "d", "A", "zz", (), ("a",), KEEP, Sum("a"), "a b", b"a"[0]):
            for record in (barred, ((1, 1),)):
                for lines in ((value,), ("a", value, "zzz"), ("c", "b", value, None)):
                    error = caught(lambda: list(moments(KEEP, record, *lines)))
                    self.assertIs(type(error), UnknownName)
                    self.assertIs(error.name, value)
        for value in ([], {}, ["a"]):
            error = caught(lambda: next(moments(KEEP, barred, value)))
            self.assertIs(type(error), UnknownName)
            self.assertIs(error.name, value)


class LargestTests(unittest.TestCase):
    def test_sixty_lines_and_twelve_delays(self):
        start = time.perf_counter()
        some = Numbers(60)
        lines = ["abcdefghijklmnopqrstuvwxyz"[k % 26] * (k // 26 + 1) for k in range(60)]
        delays = [Delay(lines[k], lines[k + 20]) for k in range(12)]
        mixes = [Mix(lines[k], **{lines[j]: some.below(97) for j in range(20, 40)}) for k in range(20)]
        for parts in (
            delays + [Same(*lines)] * 28, delays + [Sum(*lines[k:], *lines[:k]) for k in range(28)], delays + mixes,
            [Sum(lines[k], lines[k + 1], lines[k + 2]) for k in range(40)],
        ):
            diagram = Diagram(97, *parts, ends=tuple(lines[:8]))
            for record in (((0,) * 8,) * 30, ((0,) * 8,) * 29 + ((0,) * 7 + (1,),), some.record(97, 8, 30)):
                for finite in (False, True):
                    word, value = filling(diagram, record, finite=finite)
                    judge = is_filling if word == "filling" else is_bar
                    self.assertTrue(judge(diagram, record, value, finite=finite))
        self.assertLess(time.perf_counter() - start, 20)


if __name__ == "__main__":
    unittest.main()
