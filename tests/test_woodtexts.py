"""[10] Woods' texts: written, read back, refused."""

import re
import unittest

from boughkept.errors import NoText, NoWood
from boughkept.woodtexts import read_wood, show_wood
from helpers import CHAINS, SIGNS, WOOD, all_amiss, chance, one_sign_off, refusal

TEXT = """kind num
zero
one
neg num
add num num
sum list
kind list
nil
list num list
rest list
kind void
kind some
lift void
part list num"""
KIND = re.compile("kind ((?!kind$)[a-z]{1,6})")
MAKER = re.compile("(?!kind( |$))[a-z]{1,6}( (?!kind( |$))[a-z]{1,6}){0,2}")


class TestWoodTexts(unittest.TestCase):
    def check(self, text):
        """Holds what is told of a text against another way of reading it."""
        kinds = []
        for at, row in enumerate(text.split("\n")):
            if KIND.fullmatch(row):
                kinds.append((row[5:], []))
            elif kinds and MAKER.fullmatch(row):
                name, *parts = row.split(" ")
                kinds[-1][1].append((name, tuple(parts)))
            else:
                self.assertEqual(refusal(NoText, read_wood, text).row, at, text)
                return
        wood = tuple([(name, tuple(makers)) for name, makers in kinds])
        told = all_amiss(wood)
        if told:
            refused = refusal(NoWood, read_wood, text)
            self.assertEqual((refused.word, refused.name), told[0], text)
        else:
            self.assertEqual(read_wood(text), wood)
            self.assertEqual(show_wood(wood), text)

    def no_text(self, text, row):
        self.assertEqual(refusal(NoText, read_wood, text).row, row, text)

    def no_wood(self, text, word, name):
        refused = refusal(NoWood, read_wood, text)
        self.assertEqual((refused.word, refused.name), (word, name), text)

    def test_written_and_read_back(self):
        self.assertEqual(show_wood(WOOD), TEXT)
        self.assertEqual(read_wood(TEXT), WOOD)
        self.assertEqual(show_wood(wood=CHAINS), "kind nat\nz\ns nat")
        self.assertEqual(read_wood(text="kind nat\nz\ns nat"), CHAINS)
        for wood in (
            (("a", ()),), (("a", ()), ("b", ())), (("a", (("a", ("a", "a")),)),), (("a", (("b", ("b",)),)), ("b", ())),
            tuple([(name, tuple([(name + more, (name,)) for more in "xyz"])) for name in "abcd"]),
        ):
            told = read_wood(show_wood(wood))
            self.assertEqual(told, wood)
            self.assertEqual([type(told), type(told[0]), type(told[0][1])], [tuple] * 3)
        self.assertEqual(type(read_wood(TEXT)[0][1][2][1]), tuple)

    def test_no_such_row(self):
        self.no_text("", 0)
        self.no_text("\n", 0)
        self.no_text("\n" + TEXT, 0)
        self.no_text(TEXT + "\n", 14)
        self.no_text("kind a\n\nx", 1)
        self.no_text("x", 0)
        self.no_text("x\nkind a", 0)
        self.no_text("kinds a", 0)
        self.no_text("kind", 0)
        self.no_text("kind ", 0)
        self.no_text("kind kind", 0)
        self.no_text("kind a b", 0)
        self.no_text("kind  a", 0)
        self.no_text(" kind a", 0)
        self.no_text("kind a ", 0)
        self.no_text("kind A", 0)
        self.no_text("kind abcdefg", 0)
        self.no_text("kind a\nkind", 1)
        self.no_text("kind a\nx\nkind b c", 2)
        self.no_text("kind a\nx\nkind kind", 2)
        self.no_text("kind a\nx a a a", 1)
        self.no_text("kind a\nx a a a a", 1)
        self.no_text("kind a\nX", 1)
        self.no_text("kind a\nabcdefg", 1)
        self.no_text("kind a\nx A", 1)
        self.no_text("kind a\nx a A", 1)
        self.no_text("kind a\nx kind", 1)
        self.no_text("kind a\nx a kind", 1)
        self.no_text("kind a\nx  a", 1)
        self.no_text("kind a\nx a ", 1)
        self.no_text("kind a\n x a", 1)
        self.no_text("kind a\nx,a", 1)
        self.no_text("kind a ; x", 0)

    def test_the_first_row_and_ahead_of_looking(self):
        self.no_text("kind a\nx b\nX\nY", 2)
        self.no_text("kind a\nkind a\nx x x x", 2)
        self.no_text("kind a\nkind b\nkind c\nkind d\nkind e\n1", 5)
        self.no_text("kind a\nx\nx\nkind", 3)
        self.no_text("\n\n", 0)

    def test_looked_at(self):
        self.no_wood("kind a\nkind b\nkind c\nkind d\nkind e", "kinds", "")
        self.no_wood("kind a\nx\nkind a", "kind", "a")
        self.no_wood("kind a\nx\nkind b\nx", "maker", "x")
        self.no_wood("kind a\nx a b", "part", "x")
        self.no_wood("kind a\nx b a", "part", "x")
        self.no_wood("kind a\nx x", "part", "x")
        self.no_wood("kind a\n" + "\n".join(["q" + letter for letter in "abcdefghijklm"]), "makers", "")
        self.no_wood("kind a\nx b\nkind a", "kind", "a")
        self.assertEqual(len(read_wood("kind a\n" + "\n".join(["q" + letter for letter in "abcdefghijkl"]))[0][1]), 12)

    def test_a_sign_off_at_any_place(self):
        for text in (TEXT, "kind a\nx\ny a\nz a b\nkind b"):
            for other in one_sign_off(text, "abkx \n"):
                self.check(other)
        for other in one_sign_off("kind a\nx a", SIGNS):
            self.check(other)

    def test_rows_moved_about(self):
        source = chance(61)
        rows = TEXT.split("\n") + ["kind", "kind extra", "more num num num", "zero", "bad none", "", "kind num"]
        for turn in range(1500):
            told = [source.choice(rows) for row in range(source.randrange(1, 9))]
            if source.randrange(4):
                told.insert(0, "kind num")
            self.check("\n".join(told))

    def test_told_again(self):
        for turn in range(2):
            self.assertEqual(read_wood(TEXT), WOOD)
            self.no_text("kind", 0)
            self.no_wood("kind a\nx b", "part", "x")
            self.assertEqual(show_wood(WOOD), TEXT)


if __name__ == "__main__":
    unittest.main()
