"""[7] Names, and woods: looked at, and asked for their makers."""

import itertools
import unittest

from boughkept.errors import NoWood
from boughkept.woods import is_name, kind_of, look_wood, makers_of, parts_of
from helpers import CHAINS, SIGNS, WOOD, all_amiss, chance, refusal

LETTERS = "abcdefghijklm"
NO_NAMES = ("", "kind", "abcdefg", "A", "aB", "a1", "1", "a b", " a", "a ", "a_b", "a-b", "a\n", "kinds and", "~")


def makers(many, start=0):
    """So many makers without parts, of unlike names."""
    return tuple([(f"q{LETTERS[at]}", ()) for at in range(start, start + many)])


class TestNames(unittest.TestCase):
    def test_names(self):
        for text in ("a", "z", "abc", "abcdef", "zzzzzz", "kin", "kinds", "akind", "part", "wood", "none", "x"):
            self.assertIs(is_name(text), True)
        for text in NO_NAMES:
            self.assertIs(is_name(text), False)
        self.assertIs(is_name(text="kind"), False)

    def test_every_sign(self):
        for sign in SIGNS:
            expected = sign in "abcdefghijklmnopqrstuvwxyz"
            for text in (sign, "a" + sign, sign + "a", "abcde" + sign, "ab" + sign + "cd"):
                self.assertIs(is_name(text), expected)
            self.assertIs(is_name("abcdef" + sign), False)

    def test_every_length(self):
        for length in range(12):
            self.assertIs(is_name("k" * length), 1 <= length <= 6)


class TestAsked(unittest.TestCase):
    def test_makers(self):
        expected = ["zero", "one", "neg", "add", "sum", "nil", "list", "rest", "lift", "part"]
        told = makers_of(WOOD)
        self.assertIs(type(told), list)
        self.assertEqual(told, expected)
        self.assertEqual(makers_of(wood=CHAINS), ["z", "s"])
        self.assertEqual(makers_of((("a", ()),)), [])
        self.assertEqual(makers_of((("a", ()), ("b", (("x", ()),)), ("c", ()), ("d", (("a", ()),)))), ["x", "a"])

    def test_kinds(self):
        self.assertEqual([kind_of(WOOD, maker) for maker in makers_of(WOOD)], [0, 0, 0, 0, 0, 1, 1, 1, 3, 3])
        self.assertEqual(kind_of(maker="part", wood=WOOD), 3)

    def test_parts(self):
        expected = [(), (), (0,), (0, 0), (1,), (), (0, 1), (1,), (2,), (1, 0)]
        told = [parts_of(WOOD, maker) for maker in makers_of(WOOD)]
        self.assertEqual(told, expected)
        self.assertEqual([type(parts) for parts in told], [tuple] * 10)
        self.assertEqual(parts_of(maker="part", wood=WOOD), (1, 0))

    def test_a_kind_and_a_maker_of_one_name(self):
        wood = (("a", (("b", ("a", "b")),)), ("b", (("a", ("b",)),)))
        self.assertIs(look_wood(wood), True)
        self.assertEqual((kind_of(wood, "b"), parts_of(wood, "b")), (0, (0, 1)))
        self.assertEqual((kind_of(wood, "a"), parts_of(wood, "a")), (1, (1,)))

    def test_new_lists(self):
        told = makers_of(WOOD)
        told.append("more")
        told[0] = "other"
        self.assertEqual(makers_of(WOOD)[:2], ["zero", "one"])
        self.assertEqual(len(makers_of(WOOD)), 10)
        self.assertEqual(kind_of(WOOD, "one"), 0)


class TestLookedAt(unittest.TestCase):
    def check(self, wood):
        """Holds what is told of a wood against all that is amiss with it."""
        told = all_amiss(wood)
        if told:
            refused = refusal(NoWood, look_wood, wood)
            self.assertEqual((refused.word, refused.name), told[0], wood)
        else:
            self.assertIs(look_wood(wood), True, wood)

    def refused(self, wood, word, name):
        refused = refusal(NoWood, look_wood, wood)
        self.assertEqual((refused.word, refused.name), (word, name), wood)
        self.assertEqual(all_amiss(wood)[0], (word, name), wood)

    def test_let_by(self):
        for wood in (
            WOOD, CHAINS, (("a", ()),), (("a", ()), ("b", ()), ("c", ()), ("d", ())), (("a", makers(12)),),
            (("a", makers(6)), ("b", ()), ("c", makers(6, 6))), (("a", (("x", ("b", "b")),)), ("b", (("y", ()),))),
            (("abcdef", (("abcdef", ("abcdef", "abcdef")),)),), (("a", (("a", ("a", "a")),)),),
        ):
            self.assertIs(look_wood(wood), True)
            self.assertIs(look_wood(wood=wood), True)

    def test_kinds(self):
        self.refused((), "kinds", "")
        self.refused(tuple([(name, ()) for name in "abcde"]), "kinds", "")
        self.refused(tuple([("A", (("B", ("C",)),))] * 5), "kinds", "")
        self.refused(tuple([("a", ())] * 6), "kinds", "")

    def test_names_of_kinds(self):
        for name in NO_NAMES:
            self.refused(((name, ()),), "name", name)
            self.refused((("a", ()), (name, ())), "name", name)
            self.refused((("a", ()), (name, ()), (name, ())), "name", name)
            self.refused((("a", ()), ("b", ()), ("c", ()), (name, makers(13))), "name", name)

    def test_kinds_called_alike(self):
        self.refused((("a", ()), ("a", ())), "kind", "a")
        self.refused((("a", ()), ("b", ()), ("c", ()), ("a", ())), "kind", "a")
        self.refused((("a", ()), ("b", ()), ("b", ()), ("a", ())), "kind", "b")
        self.refused((("a", ()), ("a", ()), ("B", ())), "kind", "a")
        self.refused((("a", ()), ("B", ()), ("a", ())), "name", "B")

    def test_names_of_makers(self):
        for name in NO_NAMES:
            self.refused((("a", ((name, ()),)),), "name", name)
            self.refused((("a", (("x", ("a",)), (name, ("a",)))),), "name", name)
            self.refused((("a", (("x", ()),)), ("b", ()), ("c", ((name, ("z", "z", "z")),))), "name", name)
            self.refused((("a", ((name, ()), (name, ()))),), "name", name)

    def test_makers_called_alike(self):
        self.refused((("a", (("x", ()), ("x", ()))),), "maker", "x")
        self.refused((("a", (("x", ()),)), ("b", (("x", ("a",)),))), "maker", "x")
        self.refused((("a", (("x", ()), ("y", ()), ("x", ("z", "z", "z")))),), "maker", "x")
        self.refused((("a", (("x", ()), ("y", ()), ("y", ()), ("x", ()))),), "maker", "y")

    def test_parts(self):
        self.refused((("a", (("x", ("a", "a", "a")),)),), "parts", "x")
        self.refused((("a", (("x", ("b", "b", "b", "b")),)),), "parts", "x")
        self.refused((("a", (("x", ("a", "a")), ("y", ("a",) * 3), ("z", ("b",)))),), "parts", "y")

    def test_a_part_that_is_none(self):
        self.refused((("a", (("x", ("b",)),)),), "part", "x")
        self.refused((("a", (("x", ("a", "b")),)),), "part", "x")
        self.refused((("a", (("x", ("b", "a")),)),), "part", "x")
        self.refused((("a", (("x", ("x",)),)),), "part", "x")
        self.refused((("a", (("x", ("",)),)),), "part", "x")
        self.refused((("a", (("x", ("kind",)),)),), "part", "x")
        self.refused((("a", (("x", ("a",)), ("y", ("c",)), ("z", ("a",) * 3))), ("b", ())), "part", "y")

    def test_makers(self):
        self.refused((("a", makers(13)),), "makers", "")
        self.refused((("a", makers(6)), ("b", makers(7, 6))), "makers", "")
        self.refused((("a", makers(12)), ("b", (("x", ("b", "c")),))), "part", "x")
        self.refused((("a", makers(13)), ("b", (("X", ()),))), "name", "X")
        self.refused((("a", makers(13) + makers(1)),), "maker", makers(1)[0][0])

    def test_kinds_ahead_of_makers(self):
        self.refused((("a", (("X", ()),)), ("B", ())), "name", "B")
        self.refused((("a", (("x", ("c",)), ("x", ()))), ("a", ())), "kind", "a")
        self.refused((("a", makers(13)), ("a", ())), "kind", "a")

    def test_one_maker_behind_another(self):
        rows = {
            "name": ("X", ()), "maker": ("x", ()), "parts": ("y", ("a", "a", "a")), "part": ("z", ("b",)),
        }
        for first, second in itertools.permutations(rows, 2):
            wood = (("a", (("x", ("a",)), rows[first], rows[second])),)
            self.refused(wood, first, rows[first][0])
            wood = (("a", (("x", ("a",)), rows[first])), ("c", (rows[second],)))
            self.refused(wood, first, rows[first][0])

    def test_some_of_each(self):
        source = chance(31)
        names = ("a", "b", "c", "d", "ef", "g", "h", "i", "j")
        for turn in range(3000):
            wood = []
            for kind in range(source.choice((1, 2, 2, 3, 4, 5))):
                own = []
                for maker in range(source.choice((0, 1, 2, 2, 3))):
                    parts = [source.choice(names[:2] + (source.choice(names),)) for part in range(source.choice((0, 1, 2, 2, 3)))]
                    name = source.choice(names) if source.randrange(12) else source.choice(NO_NAMES)
                    own.append((name, tuple(parts)))
                name = names[kind] if source.randrange(12) else source.choice(NO_NAMES + names[:3])
                wood.append((name, tuple(own)))
            self.check(tuple(wood))

    def test_told_again(self):
        wood = (("a", (("x", ("b",)),)),)
        for turn in range(3):
            self.refused(wood, "part", "x")
            self.assertIs(look_wood(WOOD), True)
            self.refused((), "kinds", "")


if __name__ == "__main__":
    unittest.main()
