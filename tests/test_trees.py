"""[8] [9] Trees: looked at, measured, made plain, held against one another, taken apart and made."""

import unittest

from boughkept.errors import NoTree
from boughkept.trees import (
    height_of, is_same, look_tree, made_of, part_trees, plain_of, size_of, tree_kind,
)
from boughkept.woods import kind_of, makers_of, parts_of
from helpers import (
    CHAINS, WOOD, chance, height, nested_at, plain_rows, refusal, rows_of_size, some_rows, some_trees, word,
)

ZERO, ONE, NIL = ("zero", ()), ("one", ()), ("nil", ())


def first_amiss(wood, tree):
    """The number of the first row that can't stand, None where all can."""
    if not tree:
        return 0
    for at, (maker, parts) in enumerate(tree):
        if maker not in makers_of(wood) or not all([part in range(at) for part in parts]):
            return at
        if tuple([kind_of(wood, tree[part][0]) for part in parts]) != parts_of(wood, maker):
            return at
    return None


def doubled(many):
    """So many rows, each made of the one ahead, twice."""
    return (ZERO,) + tuple([("add", (at, at)) for at in range(many - 1)])


def chain(many):
    return (("z", ()),) + tuple([("s", (at,)) for at in range(many - 1)])


class TestLookedAt(unittest.TestCase):
    def refused(self, tree, at):
        self.assertEqual(refusal(NoTree, look_tree, WOOD, tree).at, at, tree)
        self.assertEqual(first_amiss(WOOD, tree), at, tree)

    def test_let_by(self):
        for tree in (
            (ZERO,), (NIL,), (ZERO, ("neg", (0,))), (ZERO, ("add", (0, 0))), (ZERO, ONE, ("add", (1, 0))),
            (ZERO, NIL, ("list", (0, 1)), ("sum", (2,)), ("part", (2, 3))), (ZERO, NIL, ONE),
            (ZERO, ZERO, ZERO, ("neg", (1,))), doubled(60), rows_of_size(2000),
        ):
            self.assertIs(look_tree(WOOD, tree), True)
            self.assertIs(look_tree(tree=tree, wood=WOOD), True)

    def test_no_rows(self):
        self.refused((), 0)

    def test_no_maker(self):
        for name in ("", "none", "num", "void", "Zero", "zer", "kind", "zero "):
            self.refused(((name, ()),), 0)
            self.refused((ZERO, (name, ())), 1)
            self.refused((ZERO, (name, ()), ZERO), 1)
            self.refused((ZERO, (name, (5,)), ("neg", (7,))), 1)

    def test_no_row_ahead(self):
        self.refused((("neg", (0,)),), 0)
        self.refused((ZERO, ("neg", (1,))), 1)
        self.refused((ZERO, ("neg", (2,)), ZERO), 1)
        self.refused((ZERO, ("neg", (-1,))), 1)
        self.refused((ZERO, ("neg", (-2,))), 1)
        self.refused((ZERO, ("add", (0, 1))), 1)
        self.refused((ZERO, ("add", (1, 0))), 1)
        self.refused((ZERO, ("add", (0, -1))), 1)
        self.refused((ZERO, ("add", (-1, 0))), 1)
        self.refused((ZERO, ONE, ("add", (0, 10 ** 30))), 2)
        self.refused((ZERO, ONE, ("add", (-10 ** 30, 1))), 2)

    def test_too_many_or_too_few(self):
        self.refused((ZERO, ("zero", (0,))), 1)
        self.refused((ZERO, ("neg", ())), 1)
        self.refused((ZERO, ("neg", (0, 0))), 1)
        self.refused((ZERO, ("add", (0,))), 1)
        self.refused((ZERO, ("add", ())), 1)
        self.refused((ZERO, ("add", (0, 0, 0))), 1)
        self.refused((("neg", ()),), 0)

    def test_other_kinds(self):
        self.refused((NIL, ("neg", (0,))), 1)
        self.refused((ZERO, ("sum", (0,))), 1)
        self.refused((ZERO, NIL, ("add", (0, 1))), 2)
        self.refused((ZERO, NIL, ("add", (1, 0))), 2)
        self.refused((ZERO, NIL, ("list", (1, 0))), 2)
        self.refused((ZERO, NIL, ("part", (0, 1))), 2)
        self.refused((ZERO, NIL, ("lift", (0,))), 2)

    def test_the_first_of_several(self):
        self.refused((ZERO, ("neg", (0,)), ("neg", (5,)), ("none", ()), ("add", (0,))), 2)
        self.refused((("none", ()), ("none", ())), 0)
        self.refused((ZERO, ("add", (0,)), ("neg", (1,))), 1)
        # a row that is a part of none has to stand as well
        self.refused((ZERO, ("add", (0,)), ("neg", (0,))), 1)

    def test_some_of_each(self):
        source = chance(41)
        names = makers_of(WOOD) + ["none"]
        for nested, rows in some_trees(42, 400):
            for turn in range(4):
                changed = list(rows)
                at = source.randrange(len(rows))
                maker, parts = changed[at]
                parts = list(parts)
                deed = source.randrange(4)
                if deed == 0:
                    maker = source.choice(names)
                elif deed == 1 and parts:
                    parts[source.randrange(len(parts))] = source.randrange(-2, len(rows) + 1)
                elif deed == 2 and parts:
                    parts.pop()
                elif deed == 3:
                    parts.append(source.randrange(len(rows)))
                changed[at] = (maker, tuple(parts))
                expected = first_amiss(WOOD, tuple(changed))
                if expected is None:
                    self.assertIs(look_tree(WOOD, tuple(changed)), True)
                else:
                    self.assertEqual(refusal(NoTree, look_tree, WOOD, tuple(changed)).at, expected)


class TestMeasured(unittest.TestCase):
    def test_kind(self):
        self.assertEqual(tree_kind(WOOD, (ZERO,)), 0)
        self.assertEqual(tree_kind(WOOD, (ZERO, NIL)), 1)
        self.assertEqual(tree_kind(WOOD, (ZERO, NIL, ("list", (0, 1)))), 1)
        self.assertEqual(tree_kind(WOOD, (ZERO, NIL, ("part", (1, 0)))), 3)
        self.assertEqual(tree_kind(tree=(ZERO, NIL, ("sum", (1,))), wood=WOOD), 0)

    def test_height(self):
        self.assertEqual(height_of((ZERO,)), 1)
        self.assertEqual(height_of((ZERO, ("neg", (0,)))), 2)
        self.assertEqual(height_of((ZERO, ("neg", (0,)), ("neg", (1,)), ("add", (0, 2)))), 4)
        self.assertEqual(height_of((ZERO, ("neg", (0,)), ("neg", (1,)), ("add", (2, 0)))), 4)
        self.assertEqual(height_of((ZERO, ("neg", (0,)), ("neg", (1,)), ("add", (0, 0)))), 2)
        self.assertEqual(height_of((ZERO, ("neg", (0,)), ("neg", (1,)), ONE)), 1)
        self.assertEqual(height_of(tree=doubled(60)), 60)

    def test_size(self):
        self.assertEqual(size_of((ZERO,)), 1)
        self.assertEqual(size_of((ZERO, ("add", (0, 0)))), 3)
        self.assertEqual(size_of((ZERO, ONE, ("add", (0, 1)))), 3)
        self.assertEqual(size_of((ZERO, ("add", (0, 0)), ("add", (1, 0)), ("add", (1, 2)))), 9)
        self.assertEqual(size_of((ZERO, ("add", (0, 0)), ("add", (1, 1)), ONE)), 1)
        self.assertEqual(size_of(tree=doubled(60)), 2 ** 60 - 1)
        for size in range(1, 70):
            self.assertEqual(size_of(rows_of_size(size)), size)

    def test_sizes_of_thirty_figures(self):
        self.assertEqual(size_of(doubled(100)), 2 ** 100 - 1)
        self.assertEqual(len(str(2 ** 100 - 1)), 31)
        self.assertEqual(size_of(doubled(99) + (ZERO, ("add", (98, 99)))), 2 ** 99 + 1)
        self.assertEqual(size_of(plain_of(doubled(99))), 2 ** 99 - 1)

    def test_some_of_each(self):
        for nested, rows in some_trees(43, 400):
            self.assertEqual(height_of(rows), height(nested))
            self.assertEqual(size_of(rows), len(word(nested)))
            self.assertEqual(tree_kind(WOOD, rows), kind_of(WOOD, nested[0]))


class TestPlain(unittest.TestCase):
    def test_written_out(self):
        for rows, plain in (
            ((ZERO,), (ZERO,)),
            ((ONE, ZERO), (ZERO,)),
            ((ZERO, ZERO, ("add", (0, 1))), (ZERO, ("add", (0, 0)))),
            ((ONE, ZERO, ("add", (1, 0))), (ZERO, ONE, ("add", (0, 1)))),
            ((ONE, ZERO, ("add", (0, 1))), (ONE, ZERO, ("add", (0, 1)))),
            ((ZERO, ONE, ("neg", (0,)), ("neg", (1,)), ("add", (3, 2))),
             (ONE, ("neg", (0,)), ZERO, ("neg", (2,)), ("add", (1, 3)))),
            ((ZERO, ("neg", (0,)), ("add", (0, 1)), ("neg", (0,))), (ZERO, ("neg", (0,)))),
            ((ZERO, ("neg", (0,)), ZERO, ("neg", (2,)), ("add", (1, 3))), (ZERO, ("neg", (0,)), ("add", (1, 1)))),
            ((ZERO, ("neg", (0,)), ("add", (1, 0))), (ZERO, ("neg", (0,)), ("add", (1, 0)))),
            ((ZERO, ONE, NIL, ("list", (1, 2)), ("part", (3, 0))), (ONE, NIL, ("list", (0, 1)), ZERO, ("part", (2, 3)))),
        ):
            self.assertEqual(plain_of(rows), plain)
            self.assertEqual(plain_of(tree=plain), plain)

    def test_some_of_each(self):
        for nested, rows in some_trees(44, 600, most=6):
            self.assertEqual(nested_at(rows), nested)
            told = plain_of(rows)
            self.assertEqual(told, plain_rows(nested))
            self.assertEqual([type(told), type(told[-1]), type(told[-1][1])], [tuple, tuple, tuple])
            self.assertIs(look_tree(WOOD, told), True)
            self.assertEqual(plain_of(told), told)
            self.assertEqual(nested_at(told), nested)

    def test_same(self):
        source = chance(45)
        told = some_trees(46, 60, most=3)
        for nested, rows in told:
            self.assertIs(is_same(rows, some_rows(source, nested)), True)
            for other, others in told:
                self.assertIs(is_same(rows, others), nested == other)
                self.assertIs(is_same(other=rows, one=others), nested == other)

    def test_unlike(self):
        for one, other in (
            ((ZERO,), (ONE,)), ((ZERO, ONE), (ONE, ZERO)), ((ZERO,), (ZERO, ("neg", (0,)))),
            ((ZERO, ONE, ("add", (0, 1))), (ZERO, ONE, ("add", (1, 0)))),
            ((ZERO, ("add", (0, 0))), (ZERO, ONE, ("add", (0, 1)))),
            ((ZERO, ("neg", (0,)), ("add", (0, 1))), (ZERO, ("neg", (0,)), ("add", (1, 0)))),
            (doubled(60), doubled(59)),
        ):
            self.assertIs(is_same(one, other), False)
            self.assertIs(is_same(other, one), False)

    def test_great_ones(self):
        apart = [ZERO]
        for step in range(29):
            last = len(apart) - 1
            before = last - 1 if step else last
            apart += [("add", (before, last)), ("add", (last, last))]
        self.assertEqual(plain_of(tuple(apart)), doubled(30))
        self.assertIs(is_same(tuple(apart), doubled(30)), True)
        self.assertEqual(plain_of(doubled(60)), doubled(60))
        self.assertEqual(plain_of(doubled(60) + (ONE,)), (ONE,))

    def test_chains(self):
        self.assertEqual(plain_of(chain(2000)), chain(2000))
        self.assertEqual((height_of(chain(2000)), size_of(chain(2000))), (2000, 2000))
        self.assertIs(look_tree(CHAINS, chain(2000)), True)
        self.assertEqual(part_trees(chain(2000)), [chain(1999)])
        self.assertEqual(made_of("s", [chain(1999)]), chain(2000))
        self.assertIs(is_same(chain(2000), chain(2000)), True)
        self.assertIs(is_same(chain(2000), chain(1999)), False)


class TestTakenApart(unittest.TestCase):
    def test_parts(self):
        self.assertEqual(part_trees((ZERO,)), [])
        self.assertEqual(part_trees((ZERO, ("neg", (0,)))), [(ZERO,)])
        self.assertEqual(part_trees((ZERO, ONE, ("add", (1, 0)))), [(ONE,), (ZERO,)])
        self.assertEqual(part_trees((ZERO, ("add", (0, 0)))), [(ZERO,), (ZERO,)])
        self.assertEqual(part_trees((ZERO, ZERO, ("add", (0, 1)), ONE, ("add", (3, 2)))), [(ONE,), (ZERO, ("add", (0, 0)))])
        self.assertEqual(part_trees(tree=(ONE, ZERO, ("neg", (1,)))), [(ZERO,)])

    def test_made(self):
        self.assertEqual(made_of("zero", []), (ZERO,))
        self.assertEqual(made_of("zero", ()), (ZERO,))
        self.assertEqual(made_of("neg", [(ZERO,)]), (ZERO, ("neg", (0,))))
        self.assertEqual(made_of("add", ((ZERO,), (ZERO,))), (ZERO, ("add", (0, 0))))
        self.assertEqual(made_of("add", [(ONE,), (ZERO,)]), (ONE, ZERO, ("add", (0, 1))))
        self.assertEqual(made_of("add", [(ZERO, ONE), (ONE, ZERO, ("neg", (0,)))]), (ONE, ("neg", (0,)), ("add", (0, 1))))
        self.assertEqual(made_of(trees=[(NIL,), (ZERO,)], maker="part"), (NIL, ZERO, ("part", (0, 1))))

    def test_some_of_each(self):
        for nested, rows in some_trees(47, 400):
            told = part_trees(rows)
            self.assertIs(type(told), list)
            self.assertEqual(told, [plain_rows(part) for part in nested[1]])
            self.assertEqual(made_of(nested[0], told), plain_rows(nested))
            self.assertEqual(made_of(nested[0], tuple(told)), plain_rows(nested))
            self.assertEqual(made_of(nested[0], [rows[:part + 1] for part in rows[-1][1]]), plain_rows(nested))


class TestKept(unittest.TestCase):
    def test_what_was_handed_in(self):
        trees = [(ONE, ZERO), (ONE,)]
        told = made_of("add", trees)
        self.assertEqual(trees, [(ONE, ZERO), (ONE,)])
        trees[0] = (NIL,)
        trees.append((ZERO,))
        self.assertEqual(told, (ZERO, ONE, ("add", (0, 1))))

    def test_what_was_told(self):
        tree = (ZERO, ONE, ("add", (1, 0)))
        told = part_trees(tree)
        told.append("more")
        told[0] = None
        self.assertEqual(part_trees(tree), [(ONE,), (ZERO,)])
        part_trees((ZERO,)).append("more")
        self.assertEqual(part_trees((ZERO,)), [])

    def test_told_again(self):
        trees = [rows for nested, rows in some_trees(48, 30)]
        asked = (height_of, size_of, plain_of, part_trees, lambda tree: tree_kind(WOOD, tree))
        first = [[ask(tree) for ask in asked] for tree in trees]
        refusal(NoTree, look_tree, WOOD, ())
        again = [[ask(tree) for ask in asked] for tree in reversed(trees)]
        self.assertEqual(first, again[::-1])


if __name__ == "__main__":
    unittest.main()
