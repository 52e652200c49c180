"""The names, arguments and places of the interface, for the stages that have landed ([0.3])."""

import importlib
import inspect
import unittest

SIGNATURES = {
    "driveends.numbers.numbers": (
        "is_modulus(value)", "is_vector(modulus, value, *, length=None)", "is_matrix(modulus, width, value)",
        "inverse(modulus, number)", "added(modulus, vector, *others)", "scaled(modulus, number, vector)",
        "dot(modulus, one, other)", "combination(modulus, width, vectors, factors)",
        "product(modulus, width, one, other)", "transposed(modulus, width, matrix)",
    ),
    "driveends.spaces.spaces": (
        "reduced(modulus, width, vectors)", "is_reduced(modulus, width, value)",
        "contains(modulus, width, vectors, vector)", "solve(modulus, width, vectors, target)",
        "is_solution(modulus, width, vectors, target, value)", "sum_of(modulus, width, *spaces)",
        "meet_of(modulus, width, *spaces)", "sum_all(modulus, width, spaces)", "meet_all(modulus, width, spaces)",
        "complement(modulus, width, vectors)", "projected(modulus, width, vectors, columns)",
        "section(modulus, width, vectors, columns)", "is_column_basis(modulus, width, vectors, columns)",
        "column_bases(modulus, width, vectors)",
    ),
    "driveends.diagrams.diagrams": ("equations(diagram)",),
    "driveends.diagrams.records": (
        "filling(diagram, record, *, finite=False)", "is_filling(diagram, record, value, *, finite=False)",
        "is_bar(diagram, record, value, *, finite=False)", "moments(diagram, record, *lines, finite=False)",
    ),
    "driveends.behaviours.comparisons": (
        "is_within(one, other)", "comparison(one, other)", "is_chain(*behaviours)", "separating(one, other)",
        "common_steps(one, other)", "beginnings(behaviour, length)", "inclusion(one, other)", "is_inclusion(one, other, value)",
    ),
    "driveends.driving.driving": (
        "drives(behaviour, ends)", "driving_sets(behaviour)", "why_not(behaviour, ends)",
        "is_paper_against(behaviour, ends, value)", "at_once(behaviour, ends)", "exchanges(behaviour, ends, name)",
        "led_ends(behaviour)", "leading_ends(behaviour)",
    ),
    "driveends.runs.runs": ("same_future(one, other)",),
    "driveends.depth.generators": (
        "least_generators(behaviour)", "are_generators(behaviour, value)", "are_least(behaviour, value)",
        "factors(behaviour, generators, record)",
    ),
    "driveends.depth.machines": (
        "machine(behaviour, ends)", "is_machine(behaviour, ends, value)", "outputs(modulus, machine, inputs)",
    ),
    "driveends.depth.depth": (
        "depth_paper(behaviour, ends)", "is_depth_paper(behaviour, value)", "fewest_delays(behaviour)",
    ),
    "driveends.operations.operations": (
        "hidden(behaviour, ends)", "held(behaviour, ends)", "tied(behaviour, *ends, keep=False)",
        "tied_all(behaviour, ends, *, keep=False)", "joined(one, other, ends, *, keep=False)", "beside(*behaviours)",
        "beside_all(behaviours)", "plus(one, other)", "meet(one, other)", "renamed(behaviour, **names)",
        "renamed_by(behaviour, names)", "reordered(behaviour, ends)",
    ),
    "driveends.operations.turned": (
        "product_of(modulus, first, second)", "dual(behaviour)", "reversed_time(behaviour)", "are_orthogonal(one, other)",
        "product_gap(behaviour, record)", "turned(diagram)", "dual_diagram(diagram)",
    ),
    "driveends.wishes.wishes": (
        "helper_ends(part, goal)", "shown(part, goal, helper)", "bounds(part, goal)", "widest_helper(part, goal)",
        "wish(part, goal)", "is_wish_paper(part, goal, value)",
    ),
}
# For each class its methods, its class methods, its properties, and its class values; each stands in its own body.
PART = (("renamed(self, **names)", "renamed_by(self, names)", "__str__(self)", "__eq__(self, other)"), ("kind", "lines"))
CLASSES = {
    "driveends.diagrams.parts": {
        "Part": ((), ("read(text)",), (), {}),
        "Sum": (("__init__(self, *lines)", *PART[0]), ("of(lines)",), PART[1], {}),
        "Times": (("__init__(self, number, before, after)", *PART[0]), (), PART[1], {}),
        "Mix": (("__init__(self, target_line, **factors)", *PART[0]), ("of(target_line, pairs)",), PART[1], {}),
        "Delay": (("__init__(self, before, after)", *PART[0]), (), PART[1], {}),
        "Same": (("__init__(self, *lines)", *PART[0]), ("of(lines)",), PART[1], {}),
        "Use": (("__init__(self, used_name, *lines)", *PART[0]), ("of(used_name, lines)",), PART[1], {}),
    },
    "driveends.diagrams.diagrams": {
        "Diagram": (
            ("__init__(self, modulus, *parts, ends=())", "__len__(self)", "__str__(self)", "__eq__(self, other)",
             "renamed(self, **names)", "renamed_by(self, names)", "with_part(self, part)", "without_part(self, index)",
             "parts_at(self, line)"),
            ("of(modulus, parts, ends)", "read(text)"),
            ("modulus", "parts", "ends", "lines", "delays", "is_plain"),
            {"MAX_PARTS": 40, "MAX_ENDS": 8, "MAX_LINES": 60, "MAX_DELAYS": 12},
        ),
    },
    "driveends.behaviours.behaviours": {
        "Behaviour": (
            ("__len__(self)", "__str__(self)", "__eq__(self, other)", "__contains__(self, value)", "begins(self, record)",
             "first_impossible(self, record)", "has(self, record)"),
            ("of(diagram)", "spanned(modulus, ends, records)", "whole(modulus, ends)", "silent(modulus, ends)"),
            ("modulus", "ends", "rank", "depth", "first_space"),
            {"MAX_ENDS": 8, "MAX_DEPTH": 24, "MAX_SPAN": 48, "MAX_LENGTH": 200},
        ),
    },
    "driveends.runs.runs": {
        "Run": (
            ("__init__(self, behaviour)", "__len__(self)", "__str__(self)", "__eq__(self, other)", "driven_by(self, ends)",
             "back_to(self, count)", "step(self, **values)", "drive(self, values)", "expected(self, values)",
             "push(self, *values)", "options(self)", "accepts(self, value)", "take(self, vector)", "rows(self)", "branch(self)",
             "continued(self, behaviour)"),
            ("replayed(behaviour, record)",),
            ("behaviour", "record", "drivers", "steps"),
            {"MAX_STEPS": 200},
        ),
    },
    "driveends.workshop.workshop": {
        "Workshop": (
            ("__init__(self, modulus)", "__len__(self)", "__str__(self)", "__eq__(self, other)",
             "define(self, name, *parts, ends=())", "put(self, name, diagram)", "remove(self, name)", "names(self)",
             "users(self, name)", "runs(self)", "diagram_of(self, name)", "expanded(self, name)", "behaviour_of(self, name)",
             "run_of(self, run)", "start(self, run, name)", "drive(self, run, values)", "shorten(self, run, steps)",
             "end(self, run)", "undo(self, *, many=1)", "redo(self, *, many=1)", "trial(self)", "attempt(self, action)"),
            (),
            (),
            {"MAX_DIAGRAMS": 20, "MAX_RUNS": 20, "MAX_CHAIN": 8},
        ),
    },
}
CONSTANTS = {
    "driveends.numbers.numbers": {"MAX_MODULUS": 97, "MAX_WIDTH": 100, "MAX_VECTORS": 100},
    "driveends.diagrams.records": {"MAX_MOMENTS": 30},
}
GENERATORS = ("column_bases", "parts_at", "moments", "beginnings", "driving_sets", "rows", "names")


class InterfaceTests(unittest.TestCase):
    def test_functions(self):
        for place, signatures in SIGNATURES.items():
            module = importlib.import_module(place)
            for signature in signatures:
                name = signature.partition("(")[0]
                function = getattr(module, name)
                self.assertTrue(inspect.isfunction(function), name)
                self.assertEqual(name + str(inspect.signature(function)), signature)
                self.assertEqual(function.__module__, place)
                self.assertEqual(inspect.isgeneratorfunction(function), name in GENERATORS)

    def test_classes(self):
        for place, classes in CLASSES.items():
            module = importlib.import_module(place)
            for name, (methods, made, properties, values) in classes.items():
                holder = getattr(module, name)
                self.assertTrue(inspect.isclass(holder), name)
                self.assertEqual((holder.__module__, holder.__name__), (place, name))
                for signature in methods:
                    method = vars(holder)[signature.partition("(")[0]]
                    self.assertEqual(method.__name__ + str(inspect.signature(method)), signature, name)
                    self.assertEqual(inspect.isgeneratorfunction(method), method.__name__ in GENERATORS)
                for signature in made:
                    one = signature.partition("(")[0]
                    self.assertIsInstance(vars(holder)[one], classmethod)
                    self.assertEqual(one + str(inspect.signature(getattr(holder, one))), signature, name)
                for one in properties:
                    self.assertIsInstance(vars(holder)[one], property)
                for one, value in values.items():
                    self.assertEqual(vars(holder)[one], value)

    def test_the_six_kinds_are_parts(self):
        module = importlib.import_module("driveends.diagrams.parts")
        for name in ("Sum", "Times", "Mix", "Delay", "Same", "Use"):
            self.assertTrue(issubclass(getattr(module, name), module.Part))

    def test_constants(self):
        for place, constants in CONSTANTS.items():
            module = importlib.import_module(place)
            for name, value in constants.items():
                self.assertEqual(getattr(module, name), value)
                self.assertIs(type(getattr(module, name)), type(value))


if __name__ == "__main__":
    unittest.main()
