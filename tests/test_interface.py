"""The names and arguments that the document lists, each defined in its own file."""

import importlib
import inspect
import unittest

FUNCTIONS = {
    "pairs": (
        "apart(kind, u, v)", "alike_pairs(kind)", "heights(kind, u, v)", "is_heights(kind, u, v, thing)",
        "common(kind, u, v)", "common_row(kind, u, v)"),
    "likenesses": ("likeness(kind, u, v)", "is_likeness(kind, u, v, thing)"),
    "sures": (
        "sure(kind)", "class_of(kind, standing)", "classes(kind)", "haunted(kind)", "worn(kind, standing)"),
    "books": (
        "apart_cells(book, one, two)", "kept(book)", "keeping(book)", "denial(book)", "is_keeping(book, thing)",
        "is_denial(book, thing)"),
    "programs": ("has_puts(program)",),
    "traces": ("follow(program, layout, trace)", "cuts_in(trace)"),
    "judging": (
        "table(program, book)", "refutation(program, book)", "is_table(program, book, thing)",
        "is_refutation(program, book, thing)"),
    "borne": (
        "cuts_borne(program, book)", "meeting(program, book, one, two)", "gap_needed(program, book)",
        "dead_places(program, book)"),
    "plans": (
        "bound(book, denied)", "plan(program, book, denied)", "is_plan(program, book, one, two, thing)"),
    "readers": ("bears(program, book)", "reader(book)", "most_looks(program)"),
    "quick": ("least_price(book, prices)", "cheapest_reader(book, prices)"),
    "drying": ("drying(most)", "dry_store(lengths)", "dry_book(lengths)", "dry_program(lengths)"),
    "lying": ("tells_with_lies(program, book, many)", "lies_borne(book)", "lie_reader(book, many)"),
    "greatest": (
        "most_names(store)", "names_by_classes(store)", "greatest_book(store)", "kinds_sure(store)",
        "alike_in(store, one, two)", "cover(store)", "is_cover(store, thing)"),
    "standins": (
        "stand_in(kind, other)", "is_stand_in(kind, other, thing)", "replaced(book, cell, kind, thing)",
        "twin_book(kind)", "veil(kind)"),
    "logs": (
        "names_in(book, log)", "next_looks(book, log)", "layouts_behind(book, log, name)", "clearing(book, log)",
        "entries_of(program, layout, trace)"),
    "spares": ("spare_cells(book, menu)",),
    "pruning": ("go_alike(program, other)", "pruned(program)", "alike_places(program)"),
    "texts": ("kind_text(kind)", "program_text(program)", "book_text(book)"),
    "reading": ("read_kind(text)", "read_program(store, text)", "read_book(store, text)"),
    "ways": ("comes(kind, standing)", "after_row(kind, standings, row)", "way_end(kind, standing, way)"),
}
CLASSES = {
    "kinds": {"Kind": ("looks", "drifts", "puts")},
    "stores": {"Store": ("kinds",), "Book": ("store", "layouts")},
    "programs": {"Program": ("store", "steps")},
    "benches": {"Bench": ("program", "layout")},
    "desks": {"Desk": ()},
}
METHODS = {
    "Kind": ("__eq__(other)",), "Store": ("__eq__(other)",), "Book": ("__eq__(other)",),
    "Program": ("__eq__(other)",),
    "Bench": (
        "layout()", "trace()", "moves()", "do(move)", "name()", "back(many)", "copy()", "trying(action)"),
    "Desk": ("tell(line)", "undoable()"),
}


def named(line):
    """The name and the list of the arguments in a line of those above."""
    name, told = line.rstrip(")").split("(")
    return name, told.split(", ") if told else []


class Interface(unittest.TestCase):
    def test_functions(self):
        for file, lines in FUNCTIONS.items():
            module = importlib.import_module("lookspoil." + file)
            for line in lines:
                name, told = named(line)
                function = getattr(module, name)
                self.assertEqual(function.__module__, module.__name__)
                self.assertEqual(list(inspect.signature(function).parameters), told)

    def test_classes(self):
        for file, told in CLASSES.items():
            module = importlib.import_module("lookspoil." + file)
            for name, arguments in told.items():
                made = getattr(module, name)
                self.assertEqual(made.__module__, module.__name__)
                self.assertEqual(tuple(inspect.signature(made).parameters), arguments)
                self.assertIn("__init__", vars(made))
                for line in METHODS[name]:
                    method, taken = named(line)
                    self.assertEqual(list(inspect.signature(vars(made)[method]).parameters), ["self"] + taken)


if __name__ == "__main__":
    unittest.main()
