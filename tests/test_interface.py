"""The names and arguments that the document lists, each defined in its own file."""

import importlib
import inspect
import unittest

FUNCTIONS = {
    "pairs": (
        "apart(kind, u, v)", "alike_pairs(kind)", "heights(kind, u, v)", "is_heights(kind, u, v, thing)",
        "common(kind, u, v)", "common_row(kind, u, v)"),
    "likenesses": ("likeness(kind, u, v)", "is_likeness(kind, u, v, thing)"),
    "sures": (
        "sure(kind)", "class_of(kind, standing)", "classes(kind)", "haunted(kind)", "worn(kind, standing)"),
    "books": (
        "apart_cells(book, one, two)", "kept(book)", "keeping(book)", "denial(book)", "is_keeping(book, thing)",
        "is_denial(book, thing)"),
    "ways": ("comes(kind, standing)", "after_row(kind, standings, row)", "way_end(kind, standing, way)"),
}
CLASSES = {
    "kinds": {"Kind": ("looks", "drifts", "puts")},
    "stores": {"Store": ("kinds",), "Book": ("store", "layouts")},
}


class Interface(unittest.TestCase):
    def test_functions(self):
        for file, lines in FUNCTIONS.items():
            module = importlib.import_module("lookspoil." + file)
            for line in lines:
                name, told = line.rstrip(")").split("(")
                function = getattr(module, name)
                self.assertEqual(function.__module__, module.__name__)
                self.assertEqual(list(inspect.signature(function).parameters), told.split(", "))

    def test_classes(self):
        for file, told in CLASSES.items():
            module = importlib.import_module("lookspoil." + file)
            for name, arguments in told.items():
                made = getattr(module, name)
                self.assertEqual(made.__module__, module.__name__)
                self.assertEqual(tuple(inspect.signature(made).parameters), arguments)
                self.assertIn("__init__", vars(made))
                self.assertIn("__eq__", vars(made))


if __name__ == "__main__":
    unittest.main()
