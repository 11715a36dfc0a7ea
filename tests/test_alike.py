"""[3] [24] Readers beside one another: their boxes are the same at every tree of a kind, or a tree is told."""

import unittest
from fractions import Fraction

from boughkept.alike import put_beside, told_alike
from boughkept.grown import grown_trees
from boughkept.raised import raised_to
from boughkept.readers import boxes_at, look_reader
from boughkept.readertexts import read_reader, show_reader
from boughkept.sayings import sayings_of
from boughkept.trees import height_of
from helpers import (
    BARREN, CHAIN_READER, CHAINS, READER, WOOD, all_trees, chain_reader, chance, height_told, pair, read_rows,
    read_whole, some_number, some_reader, some_trees, some_within, some_wood,
)


def chain(steps):
    return (("z", ()),) + tuple([("s", (at,)) for at in range(steps)])


STEPS = chain_reader("none", "1 + 1 0.0")
DOUBLE = chain_reader("1", "2 0.0")
# the steps by way of their square, and twice them
OTHERWISE = chain_reader("0", "none", "1 0.0 + 1", "2 + 1 0.1")


class TestPutBeside(unittest.TestCase):
    def test_told_ones(self):
        self.assertEqual(show_reader(CHAINS, put_beside(CHAINS, STEPS, OTHERWISE)), "\n".join([
            "reader 3", "z 0 = none", "z 1 = 0", "z 2 = none", "s 0 = 1 + 1 0.0", "s 1 = 1 0.1 + 1", "s 2 = 2 + 1 0.2",
        ]))
        self.assertEqual(show_reader(CHAINS, put_beside(CHAINS, OTHERWISE, STEPS)), "\n".join([
            "reader 3", "z 0 = 0", "z 1 = none", "z 2 = none", "s 0 = 1 0.0 + 1", "s 1 = 2 + 1 0.1", "s 2 = 1 + 1 0.2",
        ]))
        self.assertEqual(put_beside(other=STEPS, one=OTHERWISE, wood=CHAINS), put_beside(CHAINS, OTHERWISE, STEPS))

    def test_each_part_by_its_own_count(self):
        wood = (("p", (("a", ()), ("f", ("p", "q")))), ("q", (("b", ()), ("g", ("q", "p")))))
        one = read_reader(wood, "\n".join([
            "reader 1 2", "a 0 = 1", "f 0 = 1 0.0 1.1", "b 0 = 2", "b 1 = 3", "g 0 = 1 0.1 1.0", "g 1 = none",
        ]))
        other = read_reader(wood, "\n".join([
            "reader 2 1", "a 0 = 5", "a 1 = 1/2", "f 0 = 1 0.1 1.0 + 1 0.0 + 1 0.0", "f 1 = 0 1.0 + -1", "b 0 = 7",
            "g 0 = 3 0.0 1.1 + 4 0.0 + 2 1.0",
        ]))
        self.assertEqual(show_reader(wood, put_beside(wood, one, other)), "\n".join([
            "reader 3 3", "a 0 = 1", "a 1 = 5", "a 2 = 1/2", "f 0 = 1 0.0 1.1", "f 1 = 1 0.2 1.2 + 1 0.1 + 1 0.1",
            "f 2 = 0 1.2 + -1", "b 0 = 2", "b 1 = 3", "b 2 = 7", "g 0 = 1 0.1 1.0", "g 1 = none",
            "g 2 = 3 0.2 1.2 + 4 0.2 + 2 1.1",
        ]))

    def test_nothing_beside(self):
        empty = ((0,), ((), ()))
        self.assertEqual(put_beside(CHAINS, STEPS, empty), STEPS)
        self.assertEqual(put_beside(CHAINS, empty, STEPS), STEPS)
        self.assertEqual(put_beside(CHAINS, empty, empty), empty)
        self.assertEqual(put_beside((("p", ()),), ((2,), ()), ((1,), ())), ((3,), ()))

    def test_each_tree_has_both(self):
        source = chance(241)
        for turn in range(60):
            wood = some_wood(source)
            one = some_reader(source, wood, [source.randrange(3) for kind in wood])
            other = some_reader(source, wood, [source.randrange(3) for kind in wood])
            beside = put_beside(wood, one, other)
            self.assertIs(look_reader(wood, beside), True)
            self.assertEqual(beside[0], tuple([mine + its for mine, its in zip(one[0], other[0])]))
            for nested, tree in some_trees(turn, 6, wood, 4):
                mine, its = read_rows(wood, one, tree)[-1], read_rows(wood, other, tree)[-1]
                self.assertEqual(boxes_at(wood, beside, tree), tuple([pair(number) for number in mine + its]))

    def test_more_boxes_than_four(self):
        beside = put_beside(WOOD, READER, READER)
        again = put_beside(WOOD, beside, READER)
        self.assertEqual((beside[0], again[0]), ((4, 2, 0, 6), (6, 3, 0, 9)))
        for nested, tree in some_trees(242, 20):
            own = boxes_at(WOOD, READER, tree)
            self.assertEqual((boxes_at(WOOD, beside, tree), boxes_at(WOOD, again, tree)), (own * 2, own * 3))

    def test_nothing_is_changed_and_the_same_is_told(self):
        ahead = repr((STEPS, OTHERWISE, READER))
        first = put_beside(CHAINS, STEPS, OTHERWISE)
        put_beside(WOOD, READER, READER)
        self.assertEqual(put_beside(CHAINS, STEPS, OTHERWISE), first)
        self.assertEqual(repr((STEPS, OTHERWISE, READER)), ahead)


class TestToldAlike(unittest.TestCase):
    def look(self, wood, one, other, kind, box, its, cap=150):
        """Holds an answer against the point's words; tells it."""
        answer = told_alike(wood, one, other, kind, box, its)
        below = height_told(self, wood, kind, answer)
        for tree in answer[1:]:
            self.assertNotEqual(read_whole(wood, one, tree)[box], read_whole(wood, other, tree)[its])
        lower, trees = all_trees(wood, put_beside(wood, one, other), cap)
        for height, nested, boxes in trees[kind]:
            if below is None or height < below:
                self.assertEqual(boxes[box], boxes[one[0][kind] + its])
        turned = told_alike(wood, other, one, kind, its, box)
        self.assertEqual([turned[0]] + [height_of(tree) for tree in turned[1:]], [answer[0]] + [below] * len(answer[1:]))
        return answer

    def test_alike(self):
        self.assertEqual(self.look(CHAINS, STEPS, OTHERWISE, 0, 0, 0), ("alike",))
        self.assertEqual(self.look(CHAINS, STEPS, STEPS, 0, 0, 0), ("alike",))
        self.assertEqual(self.look(CHAINS, OTHERWISE, OTHERWISE, 0, 1, 1), ("alike",))
        self.assertEqual(told_alike(CHAINS, STEPS, OTHERWISE, 0), ("alike",))
        # the square of the steps, told in one way by their raised reader
        square = chain_reader("none", "none", "1 + 2 0.1 + 1 0.0", "1 + 1 0.1")
        self.assertEqual(self.look(CHAINS, square, raised_to(CHAINS, STEPS), 0, 0, 1), ("alike",))
        self.assertEqual(self.look(CHAINS, square, raised_to(CHAINS, STEPS), 0, 1, 0), ("alike",))

    def test_a_tree(self):
        self.assertEqual(self.look(CHAINS, STEPS, OTHERWISE, 0, 0, 1), ("tree", chain(1)))
        self.assertEqual(self.look(CHAINS, STEPS, DOUBLE, 0, 0, 0), ("tree", chain(0)))
        self.assertEqual(self.look(CHAINS, chain_reader("1", "1 + 1 0.0"), DOUBLE, 0, 0, 0), ("tree", chain(2)))
        # 1, 2, 4, then 7 or 8; 1, 2, 4, 8, then 15 or 16
        seven = chain_reader("1", "none", "1 + 1 0.0 + 1 0.1", "1 + 1 0.1")
        self.assertEqual(self.look(CHAINS, seven, DOUBLE, 0, 0, 0), ("tree", chain(3)))
        more = chain_reader("1", "none", "none", "1 + 1 0.0 + 1 0.2", "1 + 1 0.1", "1 0.2 + 1 0.1 + 1")
        self.assertEqual(self.look(CHAINS, more, DOUBLE, 0, 0, 0), ("tree", chain(4)))

    def test_defaults_and_names(self):
        self.assertEqual(told_alike(CHAINS, STEPS, OTHERWISE, 0, its=1), ("tree", chain(1)))
        self.assertEqual(told_alike(CHAINS, OTHERWISE, STEPS, 0, 1), ("tree", chain(1)))
        self.assertEqual(told_alike(CHAINS, OTHERWISE, STEPS, 0, box=0), ("alike",))
        self.assertEqual(told_alike(CHAINS, OTHERWISE, STEPS, 0), ("alike",))
        self.assertEqual(told_alike(CHAINS, STEPS, OTHERWISE, 0), ("alike",))
        self.assertEqual(told_alike(its=0, box=1, kind=0, other=STEPS, one=OTHERWISE, wood=CHAINS), ("tree", chain(1)))
        self.assertEqual(told_alike(CHAINS, OTHERWISE, OTHERWISE, kind=0, box=1, its=1), ("alike",))

    def test_of_each_kind(self):
        one = read_reader(BARREN, "\n".join([
            "reader 1 1 1 1", "a 0 = 1", "g 0 = 2 0.0", "f 0 = 1 0.0 + 1 1.0", "b 0 = 1 0.0", "h 0 = 1 0.0 + 1 1.0", "d 0 = 1",
            "e 0 = 2",
        ]))
        other = read_reader(BARREN, "\n".join([
            "reader 1 1 1 1", "a 0 = 1", "g 0 = 1 0.0 + 1 0.0", "f 0 = 1 1.0 + 1 0.0", "b 0 = 1 0.0", "h 0 = 2 0.0",
            "d 0 = none", "e 0 = none",
        ]))
        self.assertEqual(self.look(BARREN, one, other, 0, 0, 0), ("alike",))
        self.assertEqual(height_of(self.look(BARREN, one, other, 1, 0, 0)[1]), 3)
        # of kinds without trees all boxes are alike
        self.assertEqual(self.look(BARREN, one, other, 2, 0, 0), ("alike",))
        self.assertEqual(self.look(BARREN, one, other, 3, 0, 0), ("alike",))

    def test_some_readers(self):
        source = chance(243)
        seen = {"alike": 0, "tree": 0}
        heights = set()
        for turn in range(300):
            wood, one = some_within(source, 1, rooms=8)
            kind = source.choice([at for at, count in enumerate(one[0]) if count])
            other = self.other_reader(source, wood, one)
            box, its = [source.randrange(reader[0][kind]) for reader in (one, other)]
            if source.randrange(3):
                its = box
            answer = self.look(wood, one, other, kind, box, its)
            seen[answer[0]] += 1
            heights.update([height_of(tree) for tree in answer[1:]])
        self.assertGreater(min(seen.values()), 60)
        self.assertLessEqual({1, 2, 3, 4}, heights)

    def other_reader(self, source, wood, one):
        """The reader with its terms parted and in another order, at times with one number otherwise."""
        counts, rules = one
        told = []
        for sums in rules:
            own = []
            for terms in sums:
                parted = []
                for number, boxes in terms:
                    more = some_number(source)
                    parted += [(more, boxes), (pair(Fraction(*number) - Fraction(*more)), boxes)]
                source.shuffle(parted)
                if parted and source.randrange(6) == 0:
                    parted[0] = (some_number(source), parted[0][1])
                own.append(tuple(parted))
            told.append(tuple(own))
        return (counts, tuple(told))

    def test_none_is_lower_by_the_told_trees(self):
        # of all trees of a height the told ones tell: held against those of both readers
        source = chance(244)
        for turn in range(60):
            wood, one = some_within(source, 1, rooms=7)
            other = some_reader(source, wood, one[0])
            beside = put_beside(wood, one, other)
            for kind, count in enumerate(one[0]):
                for box in range(count):
                    for its in range(count):
                        answer = told_alike(wood, one, other, kind, box, its)
                        broken = [
                            height_of(tree) for tree in grown_trees(wood, beside)[kind]
                            if read_whole(wood, one, tree)[box] != read_whole(wood, other, tree)[its]
                        ]
                        self.assertEqual([height_of(tree) for tree in answer[1:]], broken[:1])

    def test_sayings_of_both(self):
        self.assertEqual([str(poly) for poly in sayings_of(CHAINS, put_beside(CHAINS, STEPS, OTHERWISE))[0]],
                         ["-1 x0 + 1 x1", "-2 x0 + 1 x2"])

    def test_nothing_is_changed_and_the_same_is_told(self):
        ahead = repr((STEPS, OTHERWISE, DOUBLE))
        first = [told_alike(CHAINS, one, other, 0) for one in (STEPS, OTHERWISE) for other in (STEPS, DOUBLE)]
        told_alike(CHAINS, CHAIN_READER, CHAIN_READER, 0, 0, 1)
        self.assertEqual([told_alike(CHAINS, one, other, 0) for one in (STEPS, OTHERWISE) for other in (STEPS, DOUBLE)], first)
        self.assertEqual(repr((STEPS, OTHERWISE, DOUBLE)), ahead)


if __name__ == "__main__":
    unittest.main()
