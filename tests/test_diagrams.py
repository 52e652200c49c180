"""[3.2], [3.3]: driveends.diagrams.diagrams."""

import unittest
from itertools import permutations

from driveends.behaviours.behaviours import Behaviour
from driveends.diagrams.diagrams import Diagram, equations
from driveends.diagrams.parts import Delay, Mix, Part, Same, Sum, Times, Use
from driveends.errors import (
    InvalidDiagram, InvalidEnds, InvalidModulus, InvalidName, InvalidNumber, InvalidPart, ParseError, TooLarge,
)
from tests.helper import ODD, Numbers, caught, claims_of, same

ADD = Diagram(5, Sum("a", "b", "c"), ends=("a", "b", "c"))
LATE = Diagram(5, Delay("a", "b"), ends=("a", "b"))
KEEP = Diagram(5, Sum("a", "c", "b"), Delay("b", "c"), ends=("a", "b"))
LETTERS = "abcdefghijklmnopqrstuvwxyz"
MANY = tuple(LETTERS[k % 26] * (k // 26 + 1) for k in range(70))
TEXTS = (
    "5: Sum a c b, Delay b c -> a b", "5: -> a", "5: Same a ->", "2: ->", "97: Times 96 a b -> b a", "5: Mix c -> a",
    "7: Use inner, Use late x y -> y", "7: Mix c a=0 a=6 b=3, Sum a a, Same a b a ->", "97: Delay self a -> self",
    "3: Sum a, Sum a, Sum a -> a", "11: Use a -> b c d e f g h i",
)
PARTS = {
    "5: Sum a c b, Delay b c -> a b": (Sum("a", "c", "b"), Delay("b", "c")), "5: -> a": (), "5: Same a ->": (Same("a"),),
    "2: ->": (), "97: Times 96 a b -> b a": (Times(96, "a", "b"),), "5: Mix c -> a": (Mix("c"),),
    "7: Use inner, Use late x y -> y": (Use("inner"), Use("late", "x", "y")),
    "7: Mix c a=0 a=6 b=3, Sum a a, Same a b a ->": (
        Mix.of("c", (("b", 3), ("a", 6), ("a", 0))), Sum("a", "a"), Same("a", "b", "a")),
    "97: Delay self a -> self": (Delay("self", "a"),), "3: Sum a, Sum a, Sum a -> a": (Sum("a"),) * 3,
    "11: Use a -> b c d e f g h i": (Use("a"),),
}
NOT_MODULI = ODD + (0, 1, 4, 91, 98, 101, "5", (5,), Sum("a"), ADD)
NOT_PARTS = ODD + ("Sum a", 5, Part, ADD, (Sum("a"),), Behaviour.silent(5, ()))
NOT_ENDS = tuple(value for value in ODD if value != ()) + (
    "a", ["a"], ("a", "a"), ("b", "a", "b"), ("A",), ("",), ("abcdefghi",), ("a", 1), ("a", None), (("a",),), ADD, 5,
)


class ShapeTests(unittest.TestCase):
    def test_examples(self):
        found = [str(KEEP), KEEP.lines, len(KEEP), KEEP.delays, Diagram.read(str(KEEP)) == KEEP]
        self.assertEqual(found, ["5: Sum a c b, Delay b c -> a b", ("a", "b", "c"), 2, 1, True])
        found = [str(KEEP.renamed(c="b")), [str(part) for part in KEEP.parts_at("a")], str(KEEP.without_part(1))]
        self.assertEqual(found, ["5: Sum a b b, Delay b b -> a b", ["Sum a c b"], "5: Sum a c b -> a b"])
        found = equations(Diagram(5, Sum("a", "c", "b"), Delay("b", "c"), Sum("a", "a"), ends=("a", "b")))
        self.assertEqual(found, (({"a": 4, "b": 1, "c": 4}, {}), ({"c": 1}, {"b": 4}), ({}, {})))

    def test_three_ways_to_make_one(self):
        for text in TEXTS:
            parts = PARTS[text]
            modulus = int(text.split(":")[0])
            ends = tuple(text.split("->")[1].split())
            diagrams = (
                Diagram(modulus, *parts, ends=ends), Diagram.of(modulus, parts, ends), Diagram.read(text),
                Diagram.read(str(Diagram.read(text))),
            )
            for diagram in diagrams:
                self.assertEqual(str(diagram), text)
                self.assertEqual(diagram, diagrams[0])
                self.assertTrue(same((diagram.modulus, diagram.ends), (modulus, ends)))
                self.assertEqual(diagram.parts, parts)
                self.assertIs(type(diagram.parts), tuple)
                self.assertEqual(len(diagram), len(parts))
                lines = {line for part in parts for line in part.lines} | set(ends)
                self.assertTrue(same(diagram.lines, tuple(sorted(lines))))
                self.assertEqual(diagram.delays, text.count("Delay"))
                self.assertIs(diagram.is_plain, "Use" not in text)

    def test_without_ends(self):
        self.assertEqual(Diagram(5), Diagram.of(5, (), ()))
        self.assertEqual(str(Diagram(5, Sum("a"))), "5: Sum a ->")
        self.assertEqual(Diagram(5).lines, ())

    def test_class_values(self):
        for holder in (Diagram, KEEP):
            found = (holder.MAX_PARTS, holder.MAX_ENDS, holder.MAX_LINES, holder.MAX_DELAYS)
            self.assertTrue(same(found, (40, 8, 60, 12)))

    def test_equal_exactly_if_the_texts_are(self):
        for one in TEXTS:
            for other in TEXTS:
                self.assertIs(Diagram.read(one) == Diagram.read(other), one == other)
                self.assertIs(Diagram.read(one) != Diagram.read(other), one != other)
            for value in ODD + (one, Sum("a"), Behaviour.silent(5, ()), 5):
                self.assertIs(Diagram.read(one) == value, False)
                self.assertIs(value == Diagram.read(one), False)
        self.assertFalse(Diagram(5, Sum("a")) == Sum("a"))
        self.assertFalse(Diagram(5, ends=("a", "b")) == Diagram(5, ends=("b", "a")))
        self.assertFalse(Diagram(5, Sum("a"), Same("a")) == Diagram(5, Same("a"), Sum("a")))

    def test_diagrams_do_not_change(self):
        for name in ("modulus", "parts", "ends", "lines", "delays", "is_plain"):
            with self.assertRaises(AttributeError):
                setattr(KEEP, name, ())
        self.assertEqual(str(KEEP), "5: Sum a c b, Delay b c -> a b")
        self.assertEqual(KEEP, Diagram.read("5: Sum a c b, Delay b c -> a b"))


class ErrorTests(unittest.TestCase):
    def raised(self, kind, function, *some, **more):
        error = caught(function, *some, **more)
        self.assertIs(type(error), kind, (function, some, more))
        return error

    def test_each_error_and_their_order(self):
        large = (Times(5, "a", "b"), Mix("c", a=6, b=7))
        for modulus in NOT_MODULI:
            self.raised(InvalidModulus, Diagram, modulus)
            self.raised(InvalidModulus, Diagram, modulus, None, ends=5)
            self.raised(InvalidModulus, Diagram.of, modulus, (), ())
            self.raised(InvalidModulus, Diagram.of, modulus, None, None)
        for value in NOT_PARTS:
            self.raised(InvalidPart, Diagram, 5, value)
            self.raised(InvalidPart, Diagram, 5, *large, value, ends=None)
            self.raised(InvalidPart, Diagram.of, 5, (Sum("a"), value), None)
            self.raised(InvalidPart, KEEP.with_part, value)
            if not isinstance(value, tuple):
                self.raised(InvalidPart, Diagram.of, 5, value, ())
                self.raised(InvalidPart, Diagram.of, 5, value, None)
        for ends in NOT_ENDS:
            self.assertEqual(self.raised(InvalidNumber, Diagram, 5, *large, ends=ends).value, 5)
            self.raised(InvalidEnds, Diagram, 7, *large[:1] * 41, ends=ends)
            self.raised(InvalidEnds, Diagram.of, 5, (), ends)

    def test_numbers_below_the_modulus(self):
        for modulus in (2, 5, 7, 89):
            for part, number in (
                (Times(modulus, "a", "b"), modulus), (Times(96, "a", "b"), 96), (Mix("a", c=modulus, b=96), 96),
                (Mix.of("a", (("b", 96), ("b", modulus), ("b", 1))), modulus), (Mix("a", b=modulus - 1, c=96), 96),
            ):
                fine = (Times(modulus - 1, "a", "b"), Mix("a", b=modulus - 1))
                self.assertEqual(self.raised(InvalidNumber, Diagram, modulus, *fine, part, Times(95, "a", "a")).value, number)
                self.assertEqual(self.raised(InvalidNumber, Diagram.of, modulus, (part,), None).value, number)
                self.assertEqual(self.raised(InvalidNumber, Diagram(modulus).with_part, part).value, number)
                self.raised(ParseError, Diagram.read, f"{modulus}: {part} ->")
                self.assertIsNone(caught(Diagram, 97, part))

    def test_limits(self):
        forty = (Sum(*MANY[:30]),) * 40
        self.assertEqual(len(Diagram(5, *forty)), 40)
        self.assertEqual(len(Diagram(5, ends=MANY[:8]).ends), 8)
        self.assertEqual(len(Diagram(5, Sum(*MANY[:55]), Same(*MANY[50:60])).lines), 60)
        self.assertEqual(Diagram(5, *[Delay("a", "b")] * 12, *[Sum("a")] * 28).delays, 12)
        sixty = (Same(*MANY[:52]), Sum(*MANY[40:60]))
        for parts, ends, limit in (
            (forty + (Sum("a"),), (), 40), ((Delay("a", MANY[60]),) * 41 + sixty, MANY[:9], 40),
            ((), MANY[:9], 8), (sixty + (Delay("a", MANY[60]),) * 13, MANY[:9], 8),
            (sixty + (Sum(MANY[60]),), (), 60), (sixty, MANY[60:61], 60), (sixty + (Delay("a", MANY[60]),) * 13, MANY[:8], 60),
            ((Delay("a", "b"),) * 13, MANY[:8], 12), ((Delay("a", "a"),) * 13, (), 12),
        ):
            self.assertEqual(self.raised(TooLarge, Diagram, 5, *parts, ends=ends).limit, limit)
            self.assertEqual(self.raised(TooLarge, Diagram.of, 5, parts, ends).limit, limit)
            self.raised(ParseError, Diagram.read, f"5: {', '.join(map(str, parts))} -> {' '.join(ends)}".replace(":  ->", ": ->"))
            if parts and not ends:
                shorter = Diagram(5, *parts[:-1], ends=ends)
                self.assertEqual(self.raised(TooLarge, shorter.with_part, parts[-1]).limit, limit)
                self.assertEqual(shorter, Diagram(5, *parts[:-1], ends=ends))


class ChangeTests(unittest.TestCase):
    def test_with_part(self):
        for text in TEXTS:
            diagram = Diagram.read(text)
            for part in (Sum("zz"), Delay("a", "zz"), Use("a"), Mix("q", a=1)):
                found = diagram.with_part(part)
                self.assertEqual(found, Diagram(diagram.modulus, *diagram.parts, part, ends=diagram.ends))
                self.assertEqual(str(diagram), text)

    def test_without_part(self):
        for text in TEXTS:
            diagram = Diagram.read(text)
            many = len(diagram)
            for index in range(many):
                parts = [part for k, part in enumerate(diagram.parts) if k != index]
                self.assertEqual(diagram.without_part(index), Diagram(diagram.modulus, *parts, ends=diagram.ends))
            for index in ODD + (-1, many, many + 1, -many, "0", (0,), Sum("a")):
                error = caught(diagram.without_part, index)
                self.assertIs(type(error), InvalidNumber)
                self.assertIs(error.value, index)
            self.assertEqual(str(diagram), text)

    def test_parts_at(self):
        for text in TEXTS:
            diagram = Diagram.read(text)
            for line in diagram.lines + ("zz", "inner", "late"):
                found = list(diagram.parts_at(line))
                self.assertEqual(found, [part for part in diagram.parts if line in part.lines])
            for value in ODD + (Sum("a"), ("a", "b"), diagram):
                if value != "a":
                    self.assertEqual(list(diagram.parts_at(value)), [])
        self.assertEqual(len(list(Diagram(5, Sum("a", "a"), Mix("b", a=1)).parts_at("a"))), 2)
        self.assertEqual(len(list(Diagram(5, Sum("a"), Sum("a")).parts_at("a"))), 2)

    def test_renamed(self):
        for text in TEXTS:
            diagram = Diagram.read(text)
            for names in ({}, {"a": "q"}, {"a": "b", "b": "a"}, {"self": "a", "a": "self"}, {"c": "x"}, {"zz": "a"}, {"inner": "q"}):
                ends = tuple(names.get(end, end) for end in diagram.ends)
                before = dict(names)
                if len(set(ends)) < len(ends):
                    self.assertIs(type(caught(diagram.renamed_by, names)), InvalidEnds)
                    continue
                parts = [part.renamed_by(names) for part in diagram.parts]
                self.assertEqual(diagram.renamed_by(names), Diagram(diagram.modulus, *parts, ends=ends))
                self.assertTrue(same(names, before))
                if "self" not in names:
                    self.assertEqual(diagram.renamed(**names), diagram.renamed_by(names))
            self.assertEqual(str(diagram), text)

    def test_renaming_errors(self):
        for value in ODD + ("a", 5, {"a": "B"}, {"A": "b"}, {"zz": 5}, {0: "a"}, (("a", "b"),), {"a": "b", "zz": ""}):
            if value != {}:
                self.assertIs(type(caught(KEEP.renamed_by, value)), InvalidName)
        self.assertIs(type(caught(KEEP.renamed, a="B")), InvalidName)
        self.assertIs(type(caught(KEEP.renamed, a="b")), InvalidEnds)
        self.assertIs(type(caught(KEEP.renamed, a="x", b="x")), InvalidEnds)
        self.assertIs(type(caught(KEEP.renamed, a="b", c="B")), InvalidName)
        self.assertIs(type(caught(Diagram(5).renamed, a="B")), InvalidName)
        self.assertEqual(KEEP.renamed(a="b", b="a").ends, ("b", "a"))


class ReadTests(unittest.TestCase):
    def test_other_texts_are_not_read(self):
        alphabet = "a 5,:->=\n"
        for text in TEXTS:
            changed = {text[:k] + text[k + 1:] for k in range(len(text))}
            changed |= {text[:k] + sign + text[k:] for k in range(len(text) + 1) for sign in alphabet}
            changed |= {text[:k] + sign + text[k + 1:] for k in range(len(text)) for sign in alphabet}
            changed |= {text[:k] + text[k + 1:k + 2] + text[k:k + 1] + text[k + 2:] for k in range(len(text))}
            changed |= {text + text, text + " " + text, text.lower(), text.upper(), text + "\n", text.replace(", ", " , ")}
            words = text.split(" ")
            changed |= {" ".join(words[:k] + words[k + 1:]) for k in range(len(words))}
            if len(words) < 6:
                changed |= {" ".join(order) for order in permutations(words)}
            for one in changed - set(TEXTS):
                self.judge(one)

    def judge(self, text):
        try:
            diagram = Diagram.read(text)
        except ParseError as error:
            self.assertIs(type(error), ParseError)
        else:
            self.assertEqual(str(diagram), text)
            parts = ", ".join(str(part) for part in diagram.parts)
            words = [f"{diagram.modulus}:", parts, "->", " ".join(diagram.ends)]
            self.assertEqual(" ".join(word for word in words if word), text)

    def test_wrong_texts(self):
        for text in (
            "", " ", ":", "->", ": ->", "5", "5:", "5 ->", "5:->", "5:  ->", "5: -> ", " 5: ->", "5: ->\n", "05: ->", "4: ->",
            "98: ->", "101: ->", "+5: ->", "-5: ->", "1" * 5000 + ": ->", "5: - >", "5: -> a a", "5: -> A", "5: -> a  b",
            "5: -> a, b", "5: a ->", "5: Sum a", "5: Sum a -> -> a", "5: Sum a -> a ->", "5: , ->", "5: Sum a, ->",
            "5: , Sum a ->", "5: Sum a,Sum b ->", "5: Sum a ,Sum b ->", "5: Sum a,  Sum b ->", "5: Sum a;Sum b ->", "5:Sum a ->",
            "5: Sum a->", "5: Sum a ->a", "5: Times 5 a b ->", "5: Times 04 a b ->", "5: Mix a b=5 ->", "5: Mix c b=1 a=1 ->",
            "5: 5: ->", "a: ->", "5; ->", "5: Part a ->", "5: Sum ->", "5: Delay a ->", "->" * 1000, ":" * 1000, "," * 1000,
            "5: " + ", ".join(["Sum a"] * 41) + " ->", "5: -> " + " ".join(MANY[:9]), "5: " + ", ".join(["Delay a a"] * 13) + " ->",
            "5: Sum " + " ".join(MANY[:60]) + ", Sum qqqq ->", "5: Sum " + " ".join(MANY[:61]) + " ->",
        ):
            self.assertIs(type(caught(Diagram.read, text)), ParseError, text[:50])
        for value in ODD + (5, ADD, Sum("a"), ("5: ->",), ["5: ->"]):
            self.assertIs(type(caught(Diagram.read, value)), ParseError)

    def test_largest_texts(self):
        parts = [f"Sum {' '.join(MANY[:60])}"] * 28 + ["Delay a b"] * 12
        text = f"5: {', '.join(parts)} -> {' '.join(MANY[:8])}"
        self.assertEqual(str(Diagram.read(text)), text)


class EquationTests(unittest.TestCase):
    def expected(self, diagram):
        found = []
        for part in diagram.parts:
            for tables in claims_of(str(part)):
                kept = [
                    {line: table[line] % diagram.modulus for line in sorted(table) if table[line] % diagram.modulus}
                    for table in tables
                ]
                found.append(tuple(kept))
        return tuple(found)

    def test_each_kind(self):
        some = Numbers(5)
        for modulus in (2, 3, 5, 97):
            for _ in range(120):
                lines = some.some_of("abc", 1 + some.below(6))
                two = some.some_of("ba", 2)
                number = some.below(modulus)
                pairs = tuple((line, some.below(modulus)) for line in lines)
                parts = (Sum(*lines), Times(number, *two), Mix.of(two[0], pairs), Delay(*two), Same(*lines), Mix("a"), Sum("b"))
                diagram = Diagram(modulus, *some.some_of(parts, some.below(5)), ends=("zz",))
                found = equations(diagram)
                self.assertTrue(same(found, self.expected(diagram)), str(diagram))

    def test_sums_of_factors(self):
        self.assertEqual(equations(Diagram(2, Sum("a", "a"), Sum("a", "a", "b"), Delay("a", "a"))), (
            ({}, {}), ({"b": 1}, {}), ({"a": 1}, {"a": 1})))
        self.assertEqual(equations(Diagram(5, Sum("b", "a", "b"), Times(1, "a", "a"), Mix.of("a", (("b", 2), ("b", 3))))), (
            ({"a": 4}, {}), ({}, {}), ({"a": 1}, {})))
        self.assertEqual(equations(Diagram(5, Same("b", "a", "b"), Same("a"), Mix("b", a=0))), (
            ({"a": 1, "b": 4}, {}), ({}, {}), ({"b": 1}, {})))
        self.assertEqual(equations(Diagram(5, ends=("a",))), ())

    def test_results_are_equal_and_not_shared(self):
        one, other = equations(KEEP), equations(KEEP)
        self.assertTrue(same(one, other))
        one[0][0]["a"] = 0
        one[1][1].clear()
        self.assertTrue(same(equations(KEEP), other))
        self.assertTrue(same(other, (({"a": 4, "b": 1, "c": 4}, {}), ({"c": 1}, {"b": 4}))))

    def test_wrong_values(self):
        for value in ODD + ("5: ->", 5, Sum("a"), (KEEP,), Behaviour.silent(5, ()), Diagram(5, Use("a")),
                            Diagram(5, Sum("a"), Use("a", "b"), Sum("c"))):
            self.assertIs(type(caught(equations, value)), InvalidDiagram)


if __name__ == "__main__":
    unittest.main()
