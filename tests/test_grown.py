"""[18] [19] Trees that tell all: their rows are free, and at each height as many as can be."""

import unittest

from boughkept.grown import grown_trees
from boughkept.raised import raised_to, rooms_of
from boughkept.readertexts import read_reader
from boughkept.trees import height_of, look_tree, plain_of, tree_kind
from helpers import (
    BARREN, CHAIN_READER, CHAINS, READER, WOOD, all_trees, chance, great_tree, rank_of, read_whole, room_row,
    some_reader, some_within,
)

PAIRS = (("p", (("a", ()), ("g", ("p",)), ("f", ("p", "p")))),)
# each kind is made of the one ahead alone, the first of the last
ROUND = (
    ("a", (("z", ()), ("s", ("d",)))), ("b", (("t", ("a",)),)), ("c", (("u", ("b",)),)), ("d", (("v", ("c",)),)),
)


def chain(steps):
    return (("z", ()),) + tuple([("s", (at,)) for at in range(steps)])


class TestGrown(unittest.TestCase):
    def look(self, wood, reader, degree, told, cap=250):
        """Holds the told trees against all trees of small heights, and against some great ones."""
        source = chance(7)
        rooms = rooms_of(reader, degree)
        high, trees = all_trees(wood, reader, cap)
        self.assertEqual((type(told), len(told)), (tuple, len(wood)))
        for kind, own in enumerate(told):
            self.assertIs(type(own), tuple)
            for tree in own:
                self.assertIs(look_tree(wood, tree), True)
                self.assertEqual((plain_of(tree), tree_kind(wood, tree)), (tree, kind))
            heights = [height_of(tree) for tree in own]
            self.assertEqual(heights, sorted(heights))
            self.assertTrue(all([height <= sum(rooms) for height in heights]))
            rows = [room_row(read_whole(wood, reader, tree), degree) for tree in own]
            self.assertEqual(rank_of(rows), len(own))
            for height in range(1, high + 1):
                there = [room_row(boxes, degree) for level, nested, boxes in trees[kind] if level <= height]
                self.assertEqual(len([level for level in heights if level <= height]), rank_of(there))
            for turn in range(4):
                tree = great_tree(source, wood, kind, rows=8, most=40)
                if tree is not None:
                    self.assertEqual(rank_of(rows + [room_row(read_whole(wood, reader, tree), degree)]), len(own))

    def test_chains(self):
        # of each height there is just one tree
        self.assertEqual(grown_trees(CHAINS, CHAIN_READER), ((chain(0), chain(1), chain(2)),))
        self.assertEqual(grown_trees(CHAINS, CHAIN_READER, 1), grown_trees(CHAINS, CHAIN_READER))
        self.assertEqual(grown_trees(CHAINS, CHAIN_READER, 2), (tuple([chain(steps) for steps in range(6)]),))
        self.assertEqual(grown_trees(degree=3, reader=CHAIN_READER, wood=CHAINS),
                         (tuple([chain(steps) for steps in range(10)]),))
        # how many steps, and how many times two of them: one box tells the other
        double = read_reader(CHAINS, "reader 2\nz 0 = none\nz 1 = 7\ns 0 = 1 + 1 0.0\ns 1 = 2 + 1 0.1")
        self.assertEqual(grown_trees(CHAINS, double), ((chain(0), chain(1)),))
        self.assertEqual(grown_trees(CHAINS, double, 4), (tuple([chain(steps) for steps in range(5)]),))
        ever = read_reader(CHAINS, "reader 1\nz 0 = 1/2\ns 0 = 1 0.0")
        self.assertEqual(grown_trees(CHAINS, ever, 4), ((chain(0),),))

    def test_a_tree_that_comes_late(self):
        # all is nought until a third step
        late = read_reader(CHAINS, "\n".join([
            "reader 4", "z 0 = 1", "z 1 = none", "z 2 = none", "z 3 = none",
            "s 0 = none", "s 1 = 1 0.0", "s 2 = 1 0.1", "s 3 = 1 0.2",
        ]))
        self.assertEqual(grown_trees(CHAINS, late), (tuple([chain(steps) for steps in range(5)]),))

    def test_as_high_as_there_are_rooms(self):
        rows = [
            "z 0 = none", "z 1 = 1", "s 0 = 1 + 1 0.0", "s 1 = 2 0.1", "t 0 = 1 0.0", "t 1 = 1 0.1",
            "u 0 = 1 0.0", "u 1 = 1 0.1", "v 0 = 1 0.0", "v 1 = 1 0.1",
        ]
        reader = read_reader(ROUND, "\n".join(["reader 2 2 2 2"] + rows))
        self.assertEqual(rooms_of(reader), [3] * 4)
        told = grown_trees(ROUND, reader)
        self.assertEqual([[height_of(tree) for tree in own] for own in told],
                         [[1, 5, 9], [2, 6, 10], [3, 7, 11], [4, 8, 12]])

    def test_kinds_without_trees(self):
        reader = read_reader(BARREN, "\n".join([
            "reader 1 1 2 2", "a 0 = 1", "g 0 = 2 0.0", "f 0 = 1 0.0 + 1 1.0", "b 0 = 1 0.0", "h 0 = 1 0.0 1.0",
            "d 0 = 1", "d 1 = 1 0.1", "e 0 = 3", "e 1 = 1 0.0 1.0",
        ]))
        told = grown_trees(BARREN, reader)
        self.assertEqual([len(own) for own in told], [2, 2, 0, 0])
        self.look(BARREN, reader, 1, told)
        self.assertEqual(grown_trees((("p", ()), ("q", ())), ((2, 1), ()), 2), ((), ()))
        self.assertEqual(grown_trees((("p", (("f", ("p",)),)),), ((1,), (((),),)), 4), ((),))

    def test_kinds_without_boxes(self):
        reader = ((0,), ((), (), ()))
        for degree in range(1, 5):
            self.assertEqual(grown_trees(PAIRS, reader, degree), (((("a", ()),),),))
        reader = ((0, 0, 0, 0), ((),) * 7)
        self.assertEqual(grown_trees(BARREN, reader)[:2], (((("a", ()),),), ((("a", ()), ("b", (0,))),)))

    def test_parts_of_unlike_kinds(self):
        told = grown_trees(WOOD, READER)
        self.look(WOOD, READER, 1, told)

    def test_both_parts_are_gone_through(self):
        # what is new stands in the first part, or in the second, beside all that was told ahead
        for rule in ("1 0.0 + 3 1.0", "3 0.0 + 1 1.0", "1 0.0 1.1", "1 0.1 1.0"):
            reader = read_reader(PAIRS, "\n".join([
                "reader 2", "a 0 = 1", "a 1 = 2", "g 0 = 1 0.1", "g 1 = 1 0.0 + 1 0.1", "f 0 = " + rule, "f 1 = 1 1.1",
            ]))
            for degree in (1, 2, 3):
                self.look(PAIRS, reader, degree, grown_trees(PAIRS, reader, degree))

    def test_some_of_each(self):
        source = chance(151)
        seen = set()
        for turn in range(160):
            degree = 1 + turn % 4
            wood, reader = some_within(source, degree)
            told = grown_trees(wood, reader, degree)
            self.look(wood, reader, degree, told, cap=120)
            seen.update([(degree, len(own)) for own in told])
        self.assertTrue({(1, 5), (2, 6), (3, 4), (4, 5)} <= seen, seen)

    def test_great_numbers(self):
        source = chance(152)
        number = lambda source: source.choice(((3000, 1), (-2999, 200), (1, 199), (2999, 7), (-3000, 191)))
        for counts, degree in (((4,), 1), ((3,), 2), ((2,), 3), ((1,), 4)):
            reader = some_reader(source, PAIRS, counts, most=6, number=number)
            self.look(PAIRS, reader, degree, grown_trees(PAIRS, reader, degree), cap=100)

    def test_told_readers(self):
        square = read_reader(PAIRS, "reader 1\na 0 = 2\ng 0 = 1 + 1 0.0\nf 0 = 1 0.0 1.0")
        raised = raised_to(PAIRS, square, 4)
        self.assertEqual(grown_trees(PAIRS, raised), grown_trees(PAIRS, square, 4))
        self.look(PAIRS, raised, 2, grown_trees(PAIRS, raised, 2), cap=50)

    def test_told_again(self):
        first = grown_trees(PAIRS, ((1,), (((),), ((((1, 1), (None,)),),), ((((1, 1), (0, 0)),),))), 3)
        grown_trees(CHAINS, CHAIN_READER, 2)
        grown_trees(WOOD, READER)
        self.assertEqual(grown_trees(PAIRS, ((1,), (((),), ((((1, 1), (None,)),),), ((((1, 1), (0, 0)),),))), 3), first)


if __name__ == "__main__":
    unittest.main()
