"""[3.1], [3.2]: driveends.diagrams.parts."""

import unittest
from itertools import permutations, product

from driveends.behaviours.behaviours import Behaviour
from driveends.diagrams.diagrams import Diagram
from driveends.diagrams.parts import Delay, Mix, Part, Same, Sum, Times, Use
from driveends.errors import InvalidName, InvalidNumber, InvalidPart, ParseError
from tests.helper import ODD, Numbers, caught, same

PARTS = {
    "Sum a": Sum("a"), "Sum a b": Sum("a", "b"), "Sum a a": Sum("a", "a"), "Sum c b a": Sum("c", "b", "a"),
    "Times 0 a b": Times(0, "a", "b"), "Times 96 b a": Times(96, "b", "a"), "Times 7 a a": Times(7, "a", "a"),
    "Mix c": Mix("c"), "Mix c a=0": Mix("c", a=0), "Mix c a=2 b=3": Mix("c", b=3, a=2), "Mix a a=96": Mix("a", a=96),
    "Mix c a=10 a=9": None, "Mix c a=3 a=3": Mix.of("c", (("a", 3), ("a", 3))),
    "Mix x a=1 a=2 b=0": Mix.of("x", (("b", 0), ("a", 2), ("a", 1))),
    "Delay a b": Delay("a", "b"), "Delay a a": Delay("a", "a"),
    "Same a": Same("a"), "Same b a b": Same("b", "a", "b"),
    "Use inner": Use("inner"), "Use a a a": Use("a", "a", "a"), "Use late x y": Use("late", "x", "y"),
}
PARTS = {text: part for text, part in PARTS.items() if part is not None}
BAD_NAMES = tuple(value for value in ODD if value not in ("a",)) + (
    "abcdefghi", "A", "aB", "a1", "a_b", "a b", " a", "a ", "a,", "a=", "self\n", 0, 5, ("a",), Sum("a"),
)
BAD_NUMBERS = tuple(value for value in ODD) + (97, -1, 98, "0", (3,), Sum("a"))
BAD_TUPLES = tuple(value for value in ODD if not isinstance(value, tuple)) + ("ab", 5, ["a", "b"], Sum("a"))
SIXTY = tuple("abcdefghijklmnopqrstuvwxyz"[k % 26] * (k // 26 + 1) for k in range(60))


class ShapeTests(unittest.TestCase):
    def test_examples(self):
        found = [str(Mix("c", b=3, a=2)), str(Mix("c", b=3, a=2).renamed(a="b")), Sum("a", "c", "b").renamed(a="b", b="a").lines]
        self.assertEqual(found, ["Mix c a=2 b=3", "Mix c b=2 b=3", ("b", "c", "a")])
        self.assertEqual([Part.read("Times 3 a b") == Times(3, "a", "b"), str(Part.read("Use inner"))], [True, "Use inner"])

    def test_kind_lines_and_text(self):
        for text, part in PARTS.items():
            kind, *words = text.split(" ")
            self.assertEqual(str(part), text)
            self.assertEqual(part.kind, kind)
            if kind in ("Times", "Use"):
                words = words[1:]
            self.assertTrue(same(part.lines, tuple(word.split("=")[0] for word in words)))
            self.assertIsInstance(part, Part)
            self.assertEqual(type(part).__name__, kind)

    def test_of_is_the_same_as_single_arguments(self):
        for lines in (("a",), ("a", "b"), ("b", "a", "b"), ("self",), SIXTY):
            self.assertEqual(Sum.of(lines), Sum(*lines))
            self.assertEqual(Same.of(lines), Same(*lines))
            self.assertIs(type(Sum.of(lines)), Sum)
            self.assertIs(type(Same.of(lines)), Same)
        for lines in ((), ("a",), ("b", "a", "b"), ("a",) * 8):
            self.assertEqual(Use.of("self", lines), Use("self", *lines))
        self.assertEqual(Mix.of("c", (("b", 3), ("a", 2))), Mix("c", a=2, b=3))
        self.assertEqual(str(Mix.of("self", (("self", 2), ("self", 1)))), "Mix self self=1 self=2")
        self.assertEqual(Mix.of("c", ()), Mix("c"))

    def test_the_pairs_of_a_mix_are_sorted(self):
        pairs = (("a", 10), ("a", 9), ("b", 0), ("aa", 96), ("a", 9))
        for order in permutations(pairs):
            part = Mix.of("t", order)
            self.assertEqual(str(part), "Mix t a=9 a=9 a=10 aa=96 b=0")
            self.assertEqual(part.lines, ("t", "a", "a", "a", "aa", "b"))
            self.assertEqual(part, Mix.of("t", pairs))
        self.assertEqual(str(Mix("t", c=1, b=2, a=3)), "Mix t a=3 b=2 c=1")

    def test_equal_exactly_if_the_texts_are(self):
        for one, part in PARTS.items():
            for other, another in PARTS.items():
                self.assertIs(part == another, one == other)
                self.assertIs(part != another, one != other)
            for value in ODD + (one, Diagram(97), Behaviour.silent(5, ()), 3):
                self.assertIs(part == value, False)
                self.assertIs(value == part, False)
        self.assertFalse(Sum("a") == Same("a"))

    def test_what_was_passed_stays_and_is_copied(self):
        factors = {"b": 3, "a": 2}
        part = Mix("c", **factors)
        factors["a"] = 4
        self.assertEqual(str(part), "Mix c a=2 b=3")
        self.assertIsNone(caught(Mix.of, "c", (("b", 1), ("a", 2))))
        self.assertIsNone(caught(Sum.of, ("b", "a")))

    def test_parts_do_not_change(self):
        for text, part in PARTS.items():
            for name in ("kind", "lines"):
                with self.assertRaises(AttributeError):
                    setattr(part, name, ("x",))
            self.assertEqual(str(part), text)

    def test_names_of_one_to_eight_letters(self):
        for name in ("a", "z", "self", "abcdefgh", "zzzzzzzz", "sum", "mix"):
            self.assertEqual(Sum(name).lines, (name,))
            self.assertEqual(str(Use(name, name)), f"Use {name} {name}")
            self.assertEqual(Part.read(f"Mix {name} {name}=5"), Mix(name, **{name: 5}) if name != "self" else Mix.of(name, ((name, 5),)))

    def test_limits(self):
        self.assertEqual(len(Sum(*SIXTY).lines), 60)
        self.assertEqual(len(Same(*SIXTY).lines), 60)
        self.assertEqual(len(Use("a", *SIXTY[:8]).lines), 8)
        self.assertEqual(len(Mix("a", **{line: 1 for line in SIXTY}).lines), 61)
        self.assertEqual(len(Mix.of("a", (("a", 96),) * 60).lines), 61)
        for call in (
            lambda: Sum(), lambda: Same(), lambda: Sum.of(()), lambda: Same.of(()), lambda: Sum(*SIXTY, "a"),
            lambda: Same(*SIXTY, "a"), lambda: Sum.of(SIXTY + ("a",)), lambda: Same.of(SIXTY + ("a",)),
            lambda: Use("a", *SIXTY[:9]), lambda: Use.of("a", SIXTY[:9]), lambda: Mix.of("a", (("a", 1),) * 61),
            lambda: Mix("a", **{line: 1 for line in SIXTY + ("zzz",)}), lambda: Part(),
        ):
            with self.assertRaises(InvalidPart) as held:
                call()
            self.assertIs(type(held.exception), InvalidPart)


class ErrorTests(unittest.TestCase):
    def raised(self, kind, function, *some, **more):
        error = caught(function, *some, **more)
        self.assertIs(type(error), kind, (function, some, more))
        return error

    def test_names(self):
        for name in BAD_NAMES:
            for function, some in (
                (Sum, (name,)), (Sum, ("a", name)), (Sum, (name,) * 61), (Same, (name, "b")), (Delay, (name, "a")),
                (Delay, ("a", name)), (Times, (0, name, "a")), (Times, (96, "a", name)), (Use, (name,)), (Use, ("a", name)),
                (Use, (name,) * 12), (Mix, (name,)), (Sum.of, (("a", name),)), (Same.of, ((name,),)), (Use.of, (name, ())),
                (Use.of, ("a", ("b", name))), (Mix.of, (name, ())), (Mix.of, ("a", ((name, 1),))),
                (Mix.of, ("a", (("a", 97), (name, 1)))), (Mix.of, ("a", ((name, 1),) * 61)),
            ):
                self.raised(InvalidName, function, *some)
            if isinstance(name, str):
                self.raised(InvalidName, Mix, "a", **{name: 1})
                self.raised(InvalidName, Mix, "a", **{name: 97, "b": -1})

    def test_numbers(self):
        for number in BAD_NUMBERS:
            for function, some, more in (
                (Times, (number, "a", "b"), {}), (Times, (number, "A", 3), {}), (Mix, ("a",), {"b": number}),
                (Mix.of, ("a", (("a", number),)), {}), (Mix.of, ("a", (("a", 96),) * 60 + (("b", number),)), {}),
            ):
                self.assertIs(self.raised(InvalidNumber, function, *some, **more).value, number)

    def test_the_first_wrong_factor(self):
        for order in permutations((("b", 97), ("a", 98), ("c", None))):
            self.assertEqual(self.raised(InvalidNumber, Mix.of, "t", order).value, 98)
            self.assertEqual(self.raised(InvalidNumber, Mix, "t", **dict(order)).value, 98)
        for first, second in ((97, 99), (99, 97), ("x", 97), (None, True), ((), [])):
            found = self.raised(InvalidNumber, Mix.of, "t", (("b", 100), ("a", first), ("a", 5), ("a", second)))
            self.assertIs(found.value, first)

    def test_tuples(self):
        for value in BAD_TUPLES:
            self.raised(InvalidPart, Sum.of, value)
            self.raised(InvalidPart, Same.of, value)
            self.raised(InvalidPart, Use.of, "a", value)
            self.raised(InvalidPart, Use.of, 5, value)
            self.raised(InvalidPart, Mix.of, "a", value)
            self.raised(InvalidPart, Mix.of, None, value)
        for pairs in (("ab",), (("a",),), (("a", 1, 2),), (["a", 1],), (("a", 1), None), (("A", 1), ()), ((), ()), ({"a": 1},)):
            self.raised(InvalidPart, Mix.of, None, pairs)

    def test_order_of_errors(self):
        self.assertEqual(self.raised(InvalidNumber, Times, 97, "A", "B").value, 97)
        self.raised(InvalidName, Mix.of, "A", (("a", 97),) * 61)
        self.assertEqual(self.raised(InvalidNumber, Mix.of, "a", (("a", 97),) * 61).value, 97)
        self.raised(InvalidName, Sum.of, ("A",) * 61)
        self.raised(InvalidName, Use.of, "A", ("b",) * 9)


class RenamingTests(unittest.TestCase):
    NAMES = ({}, {"a": "b"}, {"a": "b", "b": "a"}, {"a": "x", "b": "x", "c": "x"}, {"a": "a"}, {"zz": "a"}, {"inner": "q"},
             {"b": "aa", "late": "x", "self": "a"}, {"c": "a", "a": "c", "x": "y"})

    def test_lines_are_replaced_at_once(self):
        for names in self.NAMES:
            before = dict(names)
            for text, part in PARTS.items():
                found = part.renamed_by(names)
                self.assertIs(type(found), type(part))
                self.assertEqual(str(part), text)
                words = tuple(names.get(line, line) for line in part.lines)
                if part.kind == "Mix":
                    self.assertEqual(found.lines[0], words[0])
                    factors = [int(word.split("=")[1]) for word in text.split(" ")[2:]]
                    pairs = sorted(zip(words[1:], factors))
                    self.assertEqual(str(found), " ".join(["Mix", words[0]] + [f"{line}={many}" for line, many in pairs]))
                else:
                    self.assertEqual(found.lines, words)
                    head = text.split(" ")[:1 + (part.kind in ("Times", "Use"))]
                    self.assertEqual(str(found), " ".join(head + list(words)))
                if "self" not in names:
                    self.assertEqual(part.renamed(**names), found)
            self.assertTrue(same(before, names))
        self.assertEqual(Sum("self").renamed_by({"self": "a"}), Sum("a"))
        self.assertEqual(Sum("a").renamed_by({"a": "self"}), Sum("self"))
        self.assertEqual(Sum("a").renamed(a="self"), Sum("self"))

    def test_wrong_names(self):
        for part in PARTS.values():
            for value in ODD + ("a", Sum("a"), (("a", "b"),), [("a", "b")], {"a": "B"}, {"A": "b"}, {"zz": ""}, {"": "zz"},
                                {"a": None}, {"a": ("b",)}, {0: "a"}, {("a",): "b"}, {"a": "b", "b": 1}, {"zz": "abcdefghi"}):
                if value == {}:
                    continue
                self.assertIs(type(caught(part.renamed_by, value)), InvalidName, value)
            for value in (None, 1, "", "B", ("a",), ["a"], "abcdefghi"):
                self.assertIs(type(caught(part.renamed, zz=value)), InvalidName)
            self.assertIs(type(caught(part.renamed, **{"Zz": "a"})), InvalidName)


class ReadTests(unittest.TestCase):
    def test_texts_of_parts_are_read(self):
        some = Numbers(1)
        for text, part in PARTS.items():
            found = Part.read(text)
            self.assertEqual(found, part)
            self.assertIs(type(found), type(part))
            self.assertEqual(found.lines, part.lines)
        for part in (Sum(*SIXTY), Same(*SIXTY), Use("a", *SIXTY[:8]), Mix("a", **{line: some.below(97) for line in SIXTY})):
            self.assertEqual(str(Part.read(str(part))), str(part))

    def test_other_texts_are_not_read(self):
        alphabet = "a =S0,-:\n~"
        known = set(PARTS)
        for text in PARTS:
            changed = {text[:k] + text[k + 1:] for k in range(len(text))}
            changed |= {text[:k] + sign + text[k:] for k in range(len(text) + 1) for sign in alphabet}
            changed |= {text[:k] + sign + text[k + 1:] for k in range(len(text)) for sign in alphabet}
            changed |= {text[:k] + text[k + 1:k + 2] + text[k:k + 1] + text[k + 2:] for k in range(len(text))}
            changed |= {text + text, text + " " + text, text.lower(), text.upper(), text + "\n", "\n" + text, " " + text}
            words = text.split(" ")
            changed |= {" ".join(words[:k] + words[k + 1:]) for k in range(len(words))}
            if len(words) < 6:
                changed |= {" ".join(order) for order in permutations(words)}
            for one in changed - known:
                self.judge(one)

    def judge(self, text):
        """The text is refused, or what is read has exactly this text."""
        try:
            part = Part.read(text)
        except ParseError as error:
            self.assertIs(type(error), ParseError)
        else:
            self.assertEqual(str(part), text)
            self.assertTrue(self.is_right(text), text)

    def is_right(self, text):
        """Whether this is the text of a part, by the words of the document."""
        kind, *words = text.split(" ")
        if kind in ("Times", "Mix", "Use") and not words:
            return False
        if kind == "Mix":
            pairs = [word.split("=") for word in words[1:]]
            if not all(len(pair) == 2 and self.is_factor(pair[1]) for pair in pairs):
                return False
            order = [(line, int(factor)) for line, factor in pairs]
            words = [words[0]] + [line for line, _ in order]
            many = order == sorted(order) and len(order) <= 60
        elif kind == "Times":
            many = self.is_factor(words.pop(0)) and len(words) == 2
        else:
            many = {"Sum": 1 <= len(words) <= 60, "Same": 1 <= len(words) <= 60, "Delay": len(words) == 2,
                    "Use": 1 <= len(words) <= 9}.get(kind, False)
        letters = set("abcdefghijklmnopqrstuvwxyz")
        return many and all(1 <= len(word) <= 8 and set(word) <= letters for word in words)

    def is_factor(self, text):
        return text in [str(number) for number in range(97)]

    def test_short_texts(self):
        for many in range(4):
            for signs in product("a ,=:->0\n", repeat=many):
                self.assertIs(type(caught(Part.read, "".join(signs))), ParseError)

    def test_wrong_texts(self):
        long = "1" * 5000
        for text in (
            "Times 97 a b", "Times 07 a b", "Times 00 a b", "Times +7 a b", "Times -7 a b", f"Times {long} a b", "Times  a b",
            "Times 7 a", "Times 7 a b c", "Times a b", "Times a 7 b", "Times 7_0 a b", "Times 7.0 a b",
            "Mix c a=97", "Mix c a=02", "Mix c a=+2", f"Mix c a={long}", "Mix c a=", "Mix c =2", "Mix c a", "Mix c a==2",
            "Mix c a=2=3", "Mix c b=1 a=1", "Mix c a=2 a=1", "Mix c a=1,b=2", "Mix", "Mix ", "Mix a=2", "Mix c a = 2",
            "Delay a", "Delay a b c", "Delay", "Sum", "Same", "Sum ", "Use", "Use ", "Use Inner", "Use a b c d e f g h i j",
            "sum a", "Part a", "Part", "Diagram", "Sum a, Sum b", "5: Sum a ->", "Sum\na", "Sum a\n", "Sum\ta", "Sum  a",
            "Sum " + "a" * 9, "Sum " + " ".join(SIXTY) + " a", "Same " + " ".join(SIXTY) + " a", "Mix c" + " a=1" * 61,
            "Sum " + "a " * 100000, "," * 100000, " " * 100000, "=" * 100000,
        ):
            self.assertIs(type(caught(Part.read, text)), ParseError, text[:40])
        for value in ODD + (5, Sum("a"), ("Sum a",), ["Sum a"], {"Sum a": 1}, Diagram(5)):
            self.assertIs(type(caught(Part.read, value)), ParseError)


if __name__ == "__main__":
    unittest.main()
