"""[10] Trees' words and texts: written, read back, refused."""

import itertools
import re
import unittest

from boughkept.errors import NoText, NoWord, TooLong
from boughkept.trees import look_tree, plain_of, size_of
from boughkept.woods import kind_of, makers_of, parts_of
from boughkept.words import read_tree, show_tree, tree_of, word_of
from helpers import (
    CHAINS, SIGNS, WOOD, chance, one_sign_off, plain_rows, refusal, rows_of_size, some_trees, text, word,
)

SMALL = (
    ("p", (("a", ()), ("g", ("p",)), ("f", ("p", "q")))),
    ("q", (("b", ()), ("h", ("q", "q")))),
)
ZERO, ONE = ("zero", ()), ("one", ())
CHAIN = (("z", ()),) + tuple([("s", (at,)) for at in range(1999)])
NAME = re.compile("(?<![a-zA-Z])(?!kind(?![a-z]))[a-z]{1,6}(?![a-zA-Z])")
BRACKETS = re.compile("N\\([NT](,[NT])*\\)")


def names_of(wood, names):
    """The kind of the one tree that names tell, by trying every way to cut them apart, None where they tell none."""
    if not names or names[-1] not in makers_of(wood):
        return None
    parts = parts_of(wood, names[-1])
    if parts == forest_of(wood, names[:-1], len(parts)):
        return kind_of(wood, names[-1])
    return None


def forest_of(wood, names, many=None):
    """The kinds of the trees that names tell one behind another, None where they tell none so (many: just so many)."""
    if not names or many == 0:
        return () if not names and not many else None
    for cut in range(len(names)):
        last = names_of(wood, names[cut:])
        ahead = None if last is None else forest_of(wood, names[:cut], None if many is None else many - 1)
        if ahead is not None:
            return ahead + (last,)
    return None


def no_word_at(wood, names):
    """Where a word is refused, None where it tells a tree."""
    for at in range(len(names)):
        if forest_of(wood, names[:at + 1]) is None:
            return at
    return None if names_of(wood, names) is not None else len(names)


def is_formed(given):
    """Whether a text is so formed of names, by putting brackets together from within."""
    if re.search("[^a-z(),]", given):
        return False
    left = NAME.sub("N", given)
    while BRACKETS.search(left):
        left = BRACKETS.sub("T", left)
    return left in ("N", "T")


def bracketed_names(given):
    """The names of a well-formed text in the order of its word, each with how many stand in its brackets."""
    name, opened, inside = given.partition("(")
    if not opened:
        return [(name, 0)]
    told, deep, start, many = [], 0, 0, 0
    inside = inside[:-1] + ","
    for at, sign in enumerate(inside):
        deep += (sign == "(") - (sign == ")")
        if sign == "," and deep == 0:
            told += bracketed_names(inside[start:at])
            start, many = at + 1, many + 1
    return told + [(name, many)]


class TestWords(unittest.TestCase):
    def test_written_out(self):
        for tree, names, its_text in (
            ((ZERO,), ("zero",), "zero"),
            ((ONE, ZERO), ("zero",), "zero"),
            ((ZERO, ("neg", (0,))), ("zero", "neg"), "neg(zero)"),
            ((ZERO, ("add", (0, 0))), ("zero", "zero", "add"), "add(zero,zero)"),
            ((ONE, ZERO, ("add", (1, 0))), ("zero", "one", "add"), "add(zero,one)"),
            ((ZERO, ONE, ("neg", (1,)), ("add", (0, 2))), ("zero", "one", "neg", "add"), "add(zero,neg(one))"),
            ((ZERO, ONE, ("neg", (1,)), ("add", (2, 0))), ("one", "neg", "zero", "add"), "add(neg(one),zero)"),
            ((ZERO, ("nil", ()), ("list", (0, 1)), ("part", (2, 0))), ("zero", "nil", "list", "zero", "part"),
             "part(list(zero,nil),zero)"),
        ):
            self.assertEqual(word_of(tree), names)
            self.assertEqual(show_tree(tree), its_text)
            self.assertEqual(tree_of(WOOD, names), plain_of(tree))
            self.assertEqual(read_tree(WOOD, its_text), plain_of(tree))

    def test_by_name(self):
        self.assertEqual(word_of(tree=(ZERO,)), ("zero",))
        self.assertEqual(show_tree(tree=(ZERO,)), "zero")
        self.assertEqual(tree_of(word=("zero",), wood=WOOD), (ZERO,))
        self.assertEqual(read_tree(text="zero", wood=WOOD), (ZERO,))

    def test_read_back(self):
        for nested, rows in some_trees(51, 400):
            names = word_of(rows)
            self.assertIs(type(names), tuple)
            self.assertEqual(names, word(nested))
            self.assertEqual(show_tree(rows), text(nested))
            for told in (tree_of(WOOD, names), read_tree(WOOD, show_tree(rows))):
                self.assertEqual(told, plain_rows(nested))
                self.assertEqual([type(told), type(told[-1]), type(told[-1][1])], [tuple] * 3)

    def test_every_short_word(self):
        for length in range(6):
            for names in itertools.product(("a", "g", "f", "b", "h", "x"), repeat=length):
                at = no_word_at(SMALL, names)
                if at is None:
                    self.assertEqual(word_of(tree_of(SMALL, names)), names)
                else:
                    self.assertEqual(refusal(NoWord, tree_of, SMALL, names).at, at, names)

    def test_refused_at(self):
        for names, at in (
            ((), 0), (("none",), 0), (("",), 0), (("kind",), 0), (("neg",), 0), (("add",), 0), (("zero", "add"), 1),
            (("zero", "zero"), 2), (("zero", "nil"), 2), (("zero", "zero", "zero", "add"), 4), (("zero", "none"), 1),
            (("zero", "neg", "none", "neg"), 2), (("nil", "neg"), 1), (("zero", "nil", "add"), 2),
            (("nil", "zero", "list"), 2), (("zero", "nil", "list"), None), (("nil", "zero", "part"), None),
            (("zero", "nil", "part"), 2), (("zero", "nil", "list", "neg"), 3), (("zero", "zero", "nil", "list"), 4),
            (("zero", "lift"), 1), (("zero", "nil", "list", "zero", "add"), 4), (("zero", "Zero"), 1),
            (("zero", "zero", "neg"), 3), (("num",), 0), (("zero", "add", "none"), 1),
        ):
            with self.subTest(names):
                if at is None:
                    self.assertEqual(word_of(tree_of(WOOD, names)), names)
                else:
                    self.assertEqual(refusal(NoWord, tree_of, WOOD, names).at, at)

    def test_changed_words(self):
        source = chance(52)
        names = makers_of(SMALL) + ["x"]
        for nested, rows in some_trees(53, 120, wood=SMALL, most=4):
            told = list(word(nested))
            if len(told) > 9:
                continue
            for turn in range(4):
                changed = list(told)
                at = source.randrange(len(told))
                changed[at:at + source.randrange(2)] = [source.choice(names)] * source.randrange(2)
                expected = no_word_at(SMALL, tuple(changed))
                if expected is None:
                    self.assertEqual(word_of(tree_of(SMALL, tuple(changed))), tuple(changed))
                else:
                    self.assertEqual(refusal(NoWord, tree_of, SMALL, tuple(changed)).at, expected, changed)


class TestTexts(unittest.TestCase):
    def check(self, wood, given):
        """Holds what is told of a text against another way of reading it."""
        if not is_formed(given):
            self.assertEqual(refusal(NoText, read_tree, wood, given).row, 0)
            return
        steps = bracketed_names(given)
        for at, (name, many) in enumerate(steps):
            names = tuple([ahead for ahead, its in steps[:at + 1]])
            if name not in makers_of(wood) or many != len(parts_of(wood, name)) or forest_of(wood, names) is None:
                self.assertEqual(refusal(NoWord, read_tree, wood, given).at, at, given)
                return
        tree = read_tree(wood, given)
        self.assertEqual(show_tree(tree), given)
        self.assertEqual(plain_of(tree), tree)

    def test_every_short_text(self):
        for length in range(7):
            for signs in itertools.product("afb(),", repeat=length):
                self.check(SMALL, "".join(signs))

    def test_a_sign_off_at_any_place(self):
        for given in ("f(a,h(b,b))", "g(f(g(a),b))", "f(g(a),h(h(b,b),b))", "a", "h(b,b)"):
            for other in one_sign_off(given, "abfghx(), "):
                self.check(SMALL, other)
        for other in one_sign_off("add(zero,neg(one))", "aez(),K"):
            self.check(WOOD, other)

    def test_any_sign_at_any_place(self):
        for given in ("a", "g(a)", "f(a,b)"):
            for other in one_sign_off(given, SIGNS):
                self.check(SMALL, other)

    def test_not_so_formed(self):
        for given in (
            "", " ", "zero ", " zero", "zero\n", "Zero", "zero()", "()", "(zero)", "neg(zero", "neg zero", "neg(zero))",
            "neg((zero))", "neg(zero)zero", "neg(zero)(zero)", "neg(zero)()", "add(zero,)", "add(,zero)", "add(,)", "add,zero",
            "zero,zero", "add(zero,,zero)", "add(zero, zero)", "add(zero;zero)", "add(zero zero)", "neg(zero),", ",", "(", ")",
            "neg(", "neg)", "neg)zero(", "kind", "neg(kind)", "kind(zero)", "abcdefg", "neg(abcdefg)", "zer0", "neg(ze-ro)",
            "neg[zero]", "neg(neg(zero)", "neg(zero)neg(zero)", "neg(zero),neg(zero)", "add(neg(zero)zero)", "zero(,)",
        ):
            with self.subTest(given):
                self.assertEqual(refusal(NoText, read_tree, WOOD, given).row, 0)

    def test_not_so_formed_comes_first(self):
        for given in (
            "none(", "neg(none", "neg()", "none()", "add(none,Zero)", "none,none", "add(zero)(", "abcdefg(none)",
            "neg(zero,zero,)", "add(nil,nil) ", "kind(none)", "zero(zero))",
        ):
            self.assertEqual(refusal(NoText, read_tree, WOOD, given).row, 0)

    def test_refused_at(self):
        for given, at in (
            ("none", 0), ("num", 0), ("neg", 0), ("add", 0), ("add(zero)", 1), ("neg(zero,zero)", 2), ("zero(zero)", 1),
            ("add(zero,zero,zero)", 3), ("neg(none)", 0), ("none(zero)", 1), ("add(zero,none)", 1), ("add(none,none)", 0),
            ("add(zero,add(zero))", 2), ("add(zero,neg)", 1), ("add(neg,none)", 0), ("neg(nil)", 1), ("add(zero,nil)", 2),
            ("add(nil,zero)", 2), ("list(nil,zero)", 2), ("list(zero,list(zero))", 2), ("add(zero,zero(zero))", 2),
            ("add(add(zero),none)", 1), ("none(none(none))", 0), ("add(neg(zero),none(zero))", 3), ("lift(zero)", 1),
            ("part(zero,nil)", 2), ("neg(zero(one),one(zero))", 1), ("sum(sum(nil))", 2), ("zero(zero,zero,zero)", 3),
        ):
            with self.subTest(given):
                self.assertEqual(refusal(NoWord, read_tree, WOOD, given).at, at)

    def test_names_of_any_kind(self):
        for given in ("list(zero,nil)", "sum(list(one,rest(nil)))", "part(nil,zero)", "rest(list(zero,nil))"):
            tree = read_tree(WOOD, given)
            self.assertIs(look_tree(WOOD, tree), True)
            self.assertEqual(show_tree(tree), given)


class TestLong(unittest.TestCase):
    def test_chains(self):
        names = ("z",) + ("s",) * 1999
        its_text = "s(" * 1999 + "z" + ")" * 1999
        self.assertEqual((len(names), its_text.count("(")), (2000, 1999))
        self.assertEqual(tree_of(CHAINS, names), CHAIN)
        self.assertEqual(word_of(CHAIN), names)
        self.assertEqual(show_tree(CHAIN), its_text)
        self.assertEqual(read_tree(CHAINS, its_text), CHAIN)
        self.assertEqual(refusal(NoWord, tree_of, CHAINS, names[:-1] + ("z",)).at, 2000)
        self.assertEqual(refusal(NoWord, tree_of, CHAINS, names[:-1] + ("x",)).at, 1999)
        self.assertEqual(refusal(NoWord, tree_of, CHAINS, ("s",) * 2000).at, 0)

    def test_deep_texts_refused(self):
        for given in (
            "s(" * 1999 + "z" + ")" * 1998, "s(" * 1998 + "z" + ")" * 1999, "s(" * 1999 + ")" * 1999,
            "s(" * 1999 + "z" + ")" * 1999 + "z", "(" * 1999 + "z" + ")" * 1999, "s(" * 1999 + "kind" + ")" * 1999,
        ):
            self.assertEqual(refusal(NoText, read_tree, CHAINS, given).row, 0)
        self.assertEqual(refusal(NoWord, read_tree, CHAINS, "s(" * 1999 + "x" + ")" * 1999).at, 0)
        self.assertEqual(refusal(NoWord, read_tree, CHAINS, "s(" * 1998 + "s" + ")" * 1998).at, 0)
        self.assertEqual(refusal(NoWord, read_tree, CHAINS, "x(" + "s(" * 1998 + "z" + ")" * 1999).at, 1999)
        self.assertEqual(refusal(NoWord, read_tree, CHAINS, "s(" * 1997 + "s(z,z)" + ")" * 1997).at, 2)

    def test_chains_to_either_side(self):
        left, right = [ZERO], [ZERO]
        for step in range(998):
            left.append(("add", (step, 0)))
            right.append(("add", (0, step)))
        for rows, names, its_text in (
            (left, ("zero",) + ("zero", "add") * 998, "add(" * 998 + "zero" + ",zero)" * 998),
            (right, ("zero",) * 999 + ("add",) * 998, "add(zero," * 998 + "zero" + ")" * 998),
        ):
            tree = tuple(rows)
            self.assertEqual(size_of(tree), 1997)
            self.assertEqual(word_of(tree), names)
            self.assertEqual(show_tree(tree), its_text)
            self.assertEqual(tree_of(WOOD, names), tree)
            self.assertEqual(read_tree(WOOD, its_text), tree)

    def test_too_long(self):
        for size in (1999, 2000):
            rows = rows_of_size(size)
            self.assertEqual(len(word_of(rows)), size)
            self.assertEqual(tree_of(WOOD, word_of(rows)), rows)
            self.assertEqual(read_tree(WOOD, show_tree(rows)), rows)
        great = (ZERO,) + tuple([("add", (at, at)) for at in range(59)])
        for rows in (
            rows_of_size(2001), rows_of_size(2002), rows_of_size(4001), CHAIN + (("s", (1999,)),), great,
            (ZERO,) + tuple([("add", (at, at)) for at in range(400)]), great + (("neg", (59,)),),
        ):
            self.assertEqual(refusal(TooLong, word_of, rows).most, 2000)
            self.assertEqual(refusal(TooLong, show_tree, rows).most, 2000)

    def test_not_by_rows_of_no_use(self):
        great = (ZERO,) + tuple([("add", (at, at)) for at in range(58)])
        self.assertEqual(word_of(great + (ONE,)), ("one",))
        self.assertEqual(show_tree(great + (("add", (0, 1)),)), "add(zero,add(zero,zero))")
        self.assertEqual(word_of(great + (("neg", (1,)),)), ("zero", "zero", "add", "neg"))
        many = rows_of_size(1500) + rows_of_size(1)
        self.assertEqual(show_tree(many), "zero")


class TestKept(unittest.TestCase):
    def test_told_again(self):
        trees = [rows for nested, rows in some_trees(54, 30)]
        first = [(word_of(rows), show_tree(rows), tree_of(WOOD, word_of(rows))) for rows in trees]
        refusal(NoText, read_tree, WOOD, "neg(")
        refusal(NoWord, tree_of, WOOD, ("neg",))
        refusal(NoWord, read_tree, SMALL, "zero")
        again = [(word_of(rows), show_tree(rows), tree_of(WOOD, word_of(rows))) for rows in reversed(trees)]
        self.assertEqual(first, again[::-1])
        self.assertEqual([read_tree(WOOD, its_text) for names, its_text, tree in first], [tree for names, its_text, tree in first])


if __name__ == "__main__":
    unittest.main()
