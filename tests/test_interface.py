"""The interface of DOC.md: names, parameters, and the file in which each of them is defined."""

import ast
import inspect
import unittest
from importlib import import_module
from pathlib import Path

import overtaken

PACKAGE = Path(overtaken.__file__).resolve().parent

CLASSES = {
    "errors": {
        "LetterError": {},
        "InvalidRule": {"__init__": ["self", "word"]},
        "InvalidPlan": {"__init__": ["self", "word"]},
        "InvalidText": {"__init__": ["self", "at"]},
        "InvalidWeaving": {"__init__": ["self", "at"]},
        "InvalidGoal": {},
        "InvalidCommand": {},
        "Mismatch": {},
        "Refused": {"__init__": ["self", "word"]},
        "NoRule": {"__init__": ["self", "at"]},
    },
    "rules": {
        "Rule": {
            "__init__": ["self", "kind", "tests=()", "deeds=()"],
            "read": ["text"],
            "__eq__": ["self", "other"],
            "__str__": ["self"],
        },
    },
    "plans": {
        "Plan": {
            "__init__": ["self", "raises=()", "rules=()"],
            "without": ["self", "at"],
            "raising": ["self", "raises"],
            "read": ["text"],
            "__len__": ["self"],
            "__getitem__": ["self", "at"],
            "__add__": ["self", "other"],
            "__eq__": ["self", "other"],
            "__str__": ["self"],
        },
    },
    "post": {
        "Post": {
            "__init__": ["self", "plan", "days=1"],
            "send": ["self", "kind", "day=None"],
            "come": ["self", "guest", "place"],
            "look": ["self", "guest", "day"],
            "hand": ["self", "guest", "day", "other"],
            "answer": ["self", "guest", "day"],
            "heard": ["self", "number"],
            "counted_for": ["self", "guest", "day"],
            "weaving_for": ["self", "guest", "day"],
            "goals_for": ["self", "guest", "day"],
            "undo": ["self"],
            "trial": ["self"],
            "within": ["self", "work"],
            "__len__": ["self"],
        },
    },
    "desk": {"Desk": {"__init__": ["self"], "say": ["self", "command"]}},
}

FUNCTIONS = {
    "weavings": {"play": ["plan", "weaving"]},
    "deciding": {
        "happens": ["plan", "goal"],
        "weaving": ["plan", "goal"],
        "goals": ["plan"],
        "comes": ["plan", "at"],
        "shown": ["plan"],
    },
    "papers": {"paper": ["plan", "goal"], "paper_holds": ["plan", "goal", "value"]},
    "needs": {name: ["plan", "wanted"] for name in ("least_raises", "needless_rules", "repairs")},
    "alike": {"alike": ["p", "q"], "parting": ["p", "q"]},
}

ATTRIBUTES = {"letters", "shows", "whole", "own", "answers", "counted", "rules", "goals"}


def defined(module):
    """The names of the functions and classes that stand in this file of the package."""
    tree = ast.parse((PACKAGE / f"{module}.py").read_text())
    return {node.name for node in tree.body if isinstance(node, (ast.FunctionDef, ast.ClassDef))}


class Interface(unittest.TestCase):
    def test_classes_and_methods(self):
        for module, classes in CLASSES.items():
            for name, methods in classes.items():
                self.assertIn(name, defined(module))
                found = getattr(import_module(f"overtaken.{module}"), name)
                for method, parameters in methods.items():
                    self.assertIn(method, vars(found), name)
                    told = inspect.signature(getattr(found, method)).parameters.values()
                    self.assertEqual([str(one) for one in told], parameters, f"{name}.{method}")

    def test_functions(self):
        for module, functions in FUNCTIONS.items():
            for name, parameters in functions.items():
                self.assertIn(name, defined(module))
                found = getattr(import_module(f"overtaken.{module}"), name)
                self.assertEqual([str(one) for one in inspect.signature(found).parameters.values()], parameters, name)

    def test_attributes_of_played(self):
        self.assertIn("Played", defined("weavings"))
        module = import_module("overtaken.weavings")
        played = module.play(import_module("overtaken.plans").Plan(), ["ask"])
        self.assertIsInstance(played, module.Played)
        self.assertLessEqual(ATTRIBUTES, set(vars(played)))

    def test_sent_is_a_property(self):
        self.assertIsInstance(vars(import_module("overtaken.post").Post)["sent"], property)

    def test_attribute_of_desk(self):
        self.assertIsInstance(vars(import_module("overtaken.desk").Desk())["post"], import_module("overtaken.post").Post)

    def test_read_is_a_class_method(self):
        for module, name in (("rules", "Rule"), ("plans", "Plan")):
            found = getattr(import_module(f"overtaken.{module}"), name)
            self.assertIsInstance(vars(found)["read"], classmethod)

    def test_package_is_empty_but_for_a_docstring(self):
        body = ast.parse((PACKAGE / "__init__.py").read_text()).body
        self.assertEqual(len(body), 1)
        self.assertIsInstance(body[0].value.value, str)


if __name__ == "__main__":
    unittest.main()
