"""The interface: each name stands in its file, with its arguments and their defaults."""

import importlib
import inspect
import unittest

FUNCTIONS = {
    "fractions": {
        "fraction_of": "upper, lower=1",
        "added": "one, other",
        "taken_away": "one, other",
        "multiplied": "one, other",
        "divided": "one, other",
        "is_less": "one, other",
        "show_fraction": "one",
        "read_fraction": "text",
    },
    "polys": {"exponents_to": "boxes, degree"},
    "polytexts": {"read_poly": "text, boxes"},
    "woods": {
        "is_name": "text",
        "look_wood": "wood",
        "makers_of": "wood",
        "kind_of": "wood, maker",
        "parts_of": "wood, maker",
    },
    "trees": {
        "look_tree": "wood, tree",
        "tree_kind": "wood, tree",
        "height_of": "tree",
        "size_of": "tree",
        "plain_of": "tree",
        "is_same": "one, other",
        "part_trees": "tree",
        "made_of": "maker, trees",
    },
    "words": {
        "word_of": "tree",
        "tree_of": "wood, word",
        "show_tree": "tree",
        "read_tree": "wood, text",
    },
    "woodtexts": {"show_wood": "wood", "read_wood": "text"},
    "readers": {
        "look_reader": "wood, reader",
        "boxes_at": "wood, reader, tree",
        "all_boxes_at": "wood, reader, tree",
    },
    "readertexts": {"show_reader": "wood, reader", "read_reader": "wood, text"},
    "codes": {"code_of": "wood, reader"},
    "raised": {
        "put_back": "wood, reader, maker, poly",
        "raised_to": "wood, reader, degree=2",
        "rooms_of": "reader, degree=1",
    },
    "grown": {"grown_trees": "wood, reader, degree=1"},
    "sayings": {"sayings_of": "wood, reader, degree=1"},
    "answers": {"answered": "wood, reader, kind, poly"},
    "papers": {"paper_holds": "wood, reader, paper"},
    "papermaker": {"paper_for": "wood, reader, degree=1"},
    "alike": {"put_beside": "wood, one, other", "told_alike": "wood, one, other, kind, box=0, its=0"},
    "least": {"least_reader": "wood, reader"},
    "printers": {"look_printer": "wood, printer", "printed_at": "wood, printer, tree"},
    "numbered": {
        "text_worth": "letters, text",
        "text_width": "letters, text",
        "numbered_reader": "wood, printer, letters=None",
        "print_alike": "wood, one, other, kind, box=0, its=0",
    },
    "turners": {"look_turner": "first, second, turner", "turned_tree": "first, second, turner, tree"},
    "through": {
        "read_through": "first, second, turner, reader",
        "print_through": "first, second, turner, printer",
        "turned_through": "first, second, third, turner, other",
    },
}
CLASSES = {
    "polys": {
        "Poly": {
            "__init__": "self, boxes, terms=None",
            "terms": "self",
            "degree": "self",
            "worth": "self, numbers",
            "plus": "self, other",
            "by": "self, other",
            "scaled": "self, number",
            "__eq__": None,
            "__len__": None,
            "__str__": None,
            "__repr__": None,
        },
    },
    "machine": {
        "Machine": {
            "__init__": "self, wood, reader",
            "feed": "self, maker",
            "feed_all": "self, word",
            "back": "self",
            "pile": "self",
            "highest": "self",
            "deeds_done": "self",
            "__eq__": None,
            "__len__": None,
            "__str__": None,
        },
    },
    "desk": {"Desk": {"__init__": "self", "say": "self, row"}},
}


def file_of(name):
    return importlib.import_module(f"boughkept.{name}")


def arguments(called):
    return ", ".join([str(argument) for argument in inspect.signature(called).parameters.values()])


class TestInterface(unittest.TestCase):
    def test_functions(self):
        for name, functions in FUNCTIONS.items():
            for function, expected in functions.items():
                with self.subTest(file=name, function=function):
                    found = vars(file_of(name))[function]
                    self.assertTrue(inspect.isfunction(found))
                    self.assertEqual(found.__module__, f"boughkept.{name}")
                    self.assertEqual(arguments(found), expected)

    def test_classes(self):
        for name, classes in CLASSES.items():
            for made, methods in classes.items():
                found = vars(file_of(name))[made]
                self.assertTrue(inspect.isclass(found))
                self.assertEqual(found.__module__, f"boughkept.{name}")
                for method, expected in methods.items():
                    with self.subTest(file=name, made=made, method=method):
                        self.assertIn(method, vars(found))
                        if expected is not None:
                            self.assertEqual(arguments(vars(found)[method]), expected)


if __name__ == "__main__":
    unittest.main()
