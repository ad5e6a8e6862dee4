"""The interface: names and arguments as the document tells them, and which module draws from which."""

import ast
import importlib
import inspect
import pathlib
import unittest

PACKAGE = pathlib.Path(__file__).resolve().parent.parent / "slate"

FUNCTIONS = {
    "places": {
        "place_name": ["place"],
        "place_of": ["name"],
        "inside": ["size", "place"],
        "between": ["first", "last"],
        "in_order": ["places"],
    },
    "trees": {"parts": ["tree"], "deep": ["tree"], "leaves": ["tree"], "meant": ["tree"]},
    "signs": {"tokens": ["text"]},
    "reading": {"read_formula": ["text"]},
    "writing": {"formula_text": ["tree"]},
    "moving": {
        "come_place": ["place", "axis", "at", "many"],
        "go_place": ["place", "axis", "at", "many"],
        "come_tree": ["tree", "axis", "at", "many"],
        "go_tree": ["tree", "axis", "at", "many"],
    },
    "copying": {"copy_tree": ["tree", "down", "right", "size"]},
    "values": {
        "is_trouble": ["value"],
        "bounded": ["number"],
        "put_together": ["sign", "one", "other"],
        "gathered": ["word", "values"],
    },
    "reckoning": {"reckoned": ["tree", "look"]},
    "leaning": {"sorted_out": ["leans"]},
    "rings": {"ring_of": ["nexts", "place"]},
    "settling": {
        "leans_of": ["contents"],
        "settled": ["contents", "ahead", "others"],
        "from_start": ["contents"],
    },
    "sheets": {
        "opened": ["rows", "columns"],
        "value_at": ["sheet", "place"],
        "text_at": ["sheet", "place"],
        "ring_at": ["sheet", "place"],
    },
    "deeds": {"put": ["sheet", "place", "content"], "copy": ["sheet", "start", "place"]},
    "spans": {"come": ["sheet", "axis", "at", "many"], "go": ["sheet", "axis", "at", "many"]},
    "rows": {"read_row": ["text"]},
    "desk": {"done": ["sheet", "text"], "run": ["texts"]},
}

STAGES = (
    ("errors", "places"),
    ("trees", "signs", "reading", "writing"),
    ("moving", "copying"),
    ("values", "reckoning"),
    ("leaning", "rings"),
    ("settling",),
    ("sheets", "deeds", "spans"),
    ("rows", "desk"),
)


def stage_of(module):
    return [stage for stage, modules in enumerate(STAGES, 1) if module in modules][0]


def draws():
    """A dict from each module of the package to those of its own that it draws from."""
    found = {}
    for path in PACKAGE.glob("*.py"):
        rows = [node for node in ast.walk(ast.parse(path.read_text())) if isinstance(node, ast.ImportFrom)]
        found[path.stem] = [row.module.removeprefix("slate.") for row in rows]
    return found


def reached(found, module):
    seen = []
    waiting = list(found[module])
    while waiting:
        other = waiting.pop()
        if other not in seen:
            seen.append(other)
            waiting.extend(found[other])
    return seen


class Interface(unittest.TestCase):
    def test_functions_and_their_arguments(self):
        for module, functions in FUNCTIONS.items():
            for name, arguments in functions.items():
                function = getattr(importlib.import_module("slate." + module), name)
                self.assertTrue(inspect.isfunction(function), name)
                self.assertEqual(list(inspect.signature(function).parameters), arguments, name)
                self.assertEqual(function.__module__, "slate." + module)

    def test_each_module_of_the_document_is_there_and_no_other(self):
        told = [module for modules in STAGES for module in modules]
        self.assertEqual(sorted(draws()), sorted(told + ["__init__"]))
        self.assertEqual(sorted(FUNCTIONS), sorted(set(told) - {"errors"}))

    def test_a_module_draws_from_its_stage_and_lower_ones_alone(self):
        found = draws()
        self.assertIn("places", found)
        self.assertEqual(found.pop("__init__"), [])
        for module, others in found.items():
            for other in others:
                self.assertLessEqual(stage_of(other), stage_of(module), (module, other))

    def test_no_two_modules_draw_from_one_another(self):
        found = draws()
        for module in found:
            self.assertNotIn(module, reached(found, module))


if __name__ == "__main__":
    unittest.main()
