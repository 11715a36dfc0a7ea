"""[2] Every function, class and method of the interface by place and by name, defaults left out, nothing changed."""

import importlib
import inspect
import unittest

from boughkept.alike import put_beside
from boughkept.desk import Desk
from boughkept.machine import Machine
from boughkept.papermaker import paper_for
from boughkept.polys import Poly
from boughkept.polytexts import read_poly
from boughkept.readertexts import read_reader
from boughkept.woodtexts import read_wood
from boughkept.words import read_tree
from test_interface import CLASSES, FUNCTIONS

WOOD_TEXT = "kind num\nzero\nneg num\nadd num num"
WOOD = read_wood(WOOD_TEXT)
TREE_TEXT = "add(zero,neg(add(zero,zero)))"
TREE = read_tree(WOOD, TREE_TEXT)
READER_TEXT = "\n".join([
    "reader 2", "zero 0 = 1", "zero 1 = none", "neg 0 = 1 0.0", "neg 1 = 1 0.1", "add 0 = 1 0.0 + 1 1.0",
    "add 1 = 1 + 1 0.1 + 1 1.1",
])
READER = read_reader(WOOD, READER_TEXT)
OTHER = put_beside(WOOD, READER, READER)
POLY = read_poly("1 + -1 x0 + 1 x1", 2)
PRINTER = ("ab", (1,), ((("a",),), (("b", (0, 0)),), (((0, 0), "a", (1, 0)),)))
MORE = ("ba", (2,), ((("a",), ()), (("b", (0, 0)), ((0, 1),)), (((0, 0), (1, 0)), ((0, 1), (1, 1)))))
TURNER = ((0,), ((("zero", ()),), (("part", 0), ("neg", (0,)), ("neg", (1,))), (("part", 1), ("part", 0), ("add", (0, 1)))))
ONE = ((3, 4), (-5, 6))
# for each name of the interface's arguments something to hand in; where functions differ, by (function, argument)
GIVEN = {
    "upper": 6, "lower": -4, "one": ONE[0], "other": ONE[1], "boxes": 2, "degree": 2, "wood": WOOD, "tree": TREE, "maker": "add",
    "trees": [TREE, TREE], "word": ("zero", "neg"), "reader": READER, "poly": POLY, "kind": 0, "box": 0, "its": 1,
    "paper": paper_for(WOOD, READER), "printer": PRINTER, "letters": "abc", "text": "ab", "turner": TURNER, "first": WOOD,
    "second": WOOD, "third": WOOD, "numbers": ONE, "terms": [((1, 0), (1, 2)), ((0, 1), (2, 1))], "number": (2, 3), "row": "show",
}
OWN = {
    ("read_fraction", "text"): "-7/3", ("show_fraction", "one"): (-7, 3), ("read_poly", "text"): str(POLY), ("is_name", "text"): "num",
    ("read_tree", "text"): TREE_TEXT, ("read_wood", "text"): WOOD_TEXT, ("read_reader", "text"): READER_TEXT,
    ("is_same", "one"): TREE, ("is_same", "other"): TREE, ("put_beside", "one"): READER, ("put_beside", "other"): OTHER,
    ("told_alike", "one"): READER, ("told_alike", "other"): OTHER, ("print_alike", "one"): PRINTER, ("print_alike", "other"): MORE,
    ("turned_through", "other"): TURNER, ("plus", "other"): POLY, ("by", "other"): POLY, ("feed", "maker"): "zero",
    ("feed_all", "word"): ("zero", "zero", "add"),
}


def arguments_of(called):
    return [parameter for parameter in inspect.signature(called).parameters.values() if parameter.name != "self"]


def given(name, argument):
    return OWN.get((name, argument), GIVEN[argument])


def fresh(made):
    """A new object of a class of the interface."""
    if made == "Poly":
        return Poly(2, [((1, 0), (1, 2))])
    if made == "Machine":
        machine = Machine(WOOD, READER)
        machine.feed_all(("zero", "zero", "add"))
        return machine
    desk = Desk()
    desk.say("wood kind num ; zero ; neg num")
    return desk


class TestCalls(unittest.TestCase):
    def by_place_and_name(self, name, called, call):
        """Asks by place, by name from behind, once more; call asks of a fresh object where there is one."""
        names = [argument.name for argument in arguments_of(called)]
        things = [given(name, argument) for argument in names]
        ahead = repr(things)
        first = repr(call(*things))
        named = dict(list(zip(names, things))[::-1])
        self.assertEqual(repr(call(**named)), first, name)
        for many in range(len(names)):
            self.assertEqual(repr(call(*things[:many], **dict(list(zip(names, things))[many:][::-1]))), first, name)
        self.assertEqual(repr(call(*things)), first, name)
        self.assertEqual(repr(things), ahead, name)

    def test_functions(self):
        for module, functions in FUNCTIONS.items():
            for name in functions:
                called = getattr(importlib.import_module(f"boughkept.{module}"), name)
                with self.subTest(function=name):
                    self.by_place_and_name(name, called, called)

    def test_defaults(self):
        for module, functions in FUNCTIONS.items():
            for name in functions:
                called = getattr(importlib.import_module(f"boughkept.{module}"), name)
                told = {argument.name: argument.default for argument in arguments_of(called)}
                needed = {argument: given(name, argument) for argument in told if told[argument] is inspect.Parameter.empty}
                defaults = {argument: value for argument, value in told.items() if argument not in needed}
                with self.subTest(function=name):
                    self.assertEqual(repr(called(**needed)), repr(called(**needed, **defaults)))

    def test_lists_that_are_told_are_new(self):
        for module, functions in FUNCTIONS.items():
            for name in functions:
                called = getattr(importlib.import_module(f"boughkept.{module}"), name)
                things = [given(name, argument.name) for argument in arguments_of(called)]
                told = called(*things)
                if isinstance(told, list):
                    first = repr(told)
                    told.append("more")
                    del told[0]
                    self.assertEqual(repr(called(*things)), first, name)

    def test_methods(self):
        for module, classes in CLASSES.items():
            for made, methods in classes.items():
                for name, expected in methods.items():
                    if expected is None or name == "__init__":
                        continue
                    with self.subTest(made=made, method=name):
                        called = getattr(getattr(importlib.import_module(f"boughkept.{module}"), made), name)
                        self.by_place_and_name(name, called, lambda *rest, **more: getattr(fresh(made), name)(*rest, **more))

    def test_lists_that_objects_tell_are_new(self):
        for made, name in (("Poly", "terms"), ("Machine", "pile")):
            thing = fresh(made)
            told = getattr(thing, name)()
            first = repr(told)
            told.append("more")
            del told[0]
            self.assertEqual(repr(getattr(thing, name)()), first)

    def test_classes(self):
        self.assertEqual(Poly(terms=GIVEN["terms"], boxes=2), Poly(2, GIVEN["terms"]))
        self.assertEqual(Poly(boxes=2), Poly(2, terms=None))
        terms = list(GIVEN["terms"])
        poly = Poly(2, terms)
        terms.clear()
        self.assertEqual(poly, Poly(2, GIVEN["terms"]))
        one, other = Machine(reader=READER, wood=WOOD), Machine(WOOD, READER)
        one.feed("zero")
        other.feed(maker="zero")
        self.assertEqual(one, other)
        self.assertEqual(Desk().say(row="wood kind p"), "kept 0")

    def test_all_behind_one_another(self):
        # what is asked again, behind all other questions, is told the same
        asked = []
        for turn in range(2):
            told = []
            for module, functions in FUNCTIONS.items():
                for name in functions:
                    called = getattr(importlib.import_module(f"boughkept.{module}"), name)
                    told.append(repr(called(*[given(name, argument.name) for argument in arguments_of(called)])))
            asked.append(told)
        self.assertEqual(asked[0], asked[1])


if __name__ == "__main__":
    unittest.main()
