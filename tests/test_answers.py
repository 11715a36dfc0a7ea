"""[3] [21] Answers: a sum of sayings, told by its numbers, or a tree that breaks it, none lower."""

import unittest
from fractions import Fraction

from boughkept.answers import answered
from boughkept.grown import grown_trees
from boughkept.polys import Poly
from boughkept.polytexts import read_poly
from boughkept.raised import raised_to
from boughkept.readertexts import read_reader
from boughkept.sayings import sayings_of
from boughkept.trees import height_of, look_tree, plain_of, tree_kind
from helpers import (
    BARREN, CHAIN_READER, CHAINS, READER, WOOD, all_trees, chance, pair, read_whole, some_number, some_poly, some_within,
    worth_at,
)

SQUARES = read_reader(CHAINS, "reader 2\nz 0 = none\nz 1 = none\ns 0 = 1 + 1 0.0\ns 1 = 1 + 2 0.0 + 1 0.1")
HOLLOW = (("p", (("f", ("p",)),)), ("q", (("a", ()),)))


def chain(steps):
    return (("z", ()),) + tuple([("s", (at,)) for at in range(steps)])


def sum_of(sayings, numbers, boxes):
    total = Poly(boxes)
    for poly, number in zip(sayings, numbers):
        total = total.plus(poly.scaled(number))
    return total


class TestAnswered(unittest.TestCase):
    def look(self, wood, reader, kind, poly, cap=150):
        """Holds an answer against the point's words; tells which it is."""
        word, told = answered(wood, reader, kind, poly)
        degree = max(1, poly.degree())
        if word == "always":
            sayings = sayings_of(wood, reader, degree)[kind]
            self.assertEqual((type(told), len(told)), (tuple, len(sayings)))
            self.assertEqual([pair(Fraction(*number)) for number in told], list(told))
            self.assertEqual(sum_of(sayings, told, poly.boxes), poly)
            below = None
        else:
            self.assertEqual(word, "tree")
            self.assertIs(look_tree(wood, told), True)
            self.assertEqual((plain_of(told), tree_kind(wood, told)), (told, kind))
            self.assertNotEqual(worth_at(poly, read_whole(wood, reader, told)), 0)
            below = height_of(told)
            mine = [tree for tree in grown_trees(wood, reader, degree)[kind] if height_of(tree) < below]
            self.assertEqual({worth_at(poly, read_whole(wood, reader, tree)) for tree in mine} - {0}, set())
        for height, nested, boxes in all_trees(wood, reader, cap)[1][kind]:
            if below is None or height < below:
                self.assertEqual(worth_at(poly, boxes), 0)
        return word

    def test_always(self):
        self.assertEqual(answered(CHAINS, SQUARES, 0, read_poly("-1 x1 + 1 x0^2", 2)), ("always", ((1, 1),)))
        self.assertEqual(answered(CHAINS, SQUARES, 0, read_poly("2/3 x1 + -2/3 x0^2", 2)), ("always", ((-2, 3),)))
        self.assertEqual(answered(CHAINS, SQUARES, 0, read_poly("3 x1 + -3 x0^2 + -1/2 x0 x1 + 1/2 x0^3", 2)),
                         ("always", ((-3, 1), (1, 2), (0, 1))))
        self.assertEqual(answered(poly=read_poly("5 x1 + -5 x0^2", 2), kind=0, reader=SQUARES, wood=CHAINS),
                         ("always", ((-5, 1),)))

    def test_a_tree(self):
        for text, steps in (
            ("1", 0), ("1 x0", 1), ("1 x1", 1), ("-1/2 + 1 x0", 0), ("-1 x0 + 1 x1", 2), ("-1 x0 + 1 x0^2", 2),
            ("2 x0 + -3 x0^2 + 1 x0^3", 3), ("-6 x0 + 11 x1 + -6 x0 x1 + 1 x1^2", 4), ("-1 x1 + 1 x0^2 + 1 x0^4", 1),
        ):
            self.assertEqual(answered(CHAINS, SQUARES, 0, read_poly(text, 2)), ("tree", chain(steps)), text)

    def test_nought(self):
        # to the degree 1, where there are no sayings, or some
        self.assertEqual(answered(CHAINS, SQUARES, 0, Poly(2)), ("always", ()))
        ever = read_reader(CHAINS, "reader 2\nz 0 = 1\nz 1 = 1/2\ns 0 = 1 0.0\ns 1 = 1 0.1")
        self.assertEqual(answered(CHAINS, ever, 0, Poly(2)), ("always", ((0, 1), (0, 1))))
        self.assertEqual(answered(CHAINS, ever, 0, Poly(2, [((1, 0), (0, 1))])), ("always", ((0, 1), (0, 1))))
        self.assertEqual(answered(CHAINS, ever, 0, read_poly("-3 + 3 x0", 2)), ("always", ((3, 1), (0, 1))))
        self.assertEqual(answered(CHAINS, ever, 0, read_poly("7", 2)), ("tree", chain(0)))

    def test_no_boxes(self):
        reader = read_reader(HOLLOW, "reader 0 0")
        self.assertEqual(answered(HOLLOW, reader, 1, Poly(0)), ("always", ()))
        self.assertEqual(answered(HOLLOW, reader, 1, read_poly("-2/3", 0)), ("tree", (("a", ()),)))
        # of a kind without trees 1 is a saying
        self.assertEqual(answered(HOLLOW, reader, 0, Poly(0)), ("always", ((0, 1),)))
        self.assertEqual(answered(HOLLOW, reader, 0, read_poly("-2/3", 0)), ("always", ((-2, 3),)))

    def test_kinds_without_trees(self):
        reader = read_reader(HOLLOW, "reader 2 0\nf 0 = 1\nf 1 = none")
        self.assertEqual(answered(HOLLOW, reader, 0, read_poly("5", 2)), ("always", ((5, 1), (0, 1), (0, 1))))
        self.assertEqual(answered(HOLLOW, reader, 0, read_poly("5 + -1/2 x0 x1", 2)),
                         ("always", ((5, 1), (0, 1), (0, 1), (0, 1), (-1, 2), (0, 1))))

    def test_of_each_kind(self):
        reader = read_reader(BARREN, "\n".join([
            "reader 1 2 1 0", "a 0 = 1", "g 0 = 2 0.0", "f 0 = 1 0.0 + 1 1.0", "b 0 = 1 0.0", "b 1 = 1 + 3 0.0",
            "h 0 = 1 0.0 + 1 1.0", "h 1 = 1 0.1 + 3 1.0",
        ]))
        self.assertEqual(answered(BARREN, reader, 1, read_poly("-1 + -3 x0 + 1 x1", 2)), ("always", ((1, 1),)))
        self.assertEqual(answered(BARREN, reader, 1, read_poly("-3 x0 + 1 x1", 2)), ("tree", (("a", ()), ("b", (0,)))))
        self.assertEqual(answered(BARREN, reader, 2, read_poly("-3 x0", 1)), ("always", ((0, 1), (-3, 1))))
        self.assertEqual(answered(BARREN, reader, 0, read_poly("-1 + 1 x0", 1))[0], "tree")
        self.assertEqual(answered(BARREN, reader, 3, read_poly("1", 0)), ("always", ((1, 1),)))

    def test_some_of_each(self):
        source = chance(171)
        seen = set()
        for turn in range(240):
            degree = 1 + turn % 4
            wood, reader = some_within(source, degree)
            kind = source.randrange(len(wood))
            boxes = reader[0][kind]
            own = sayings_of(wood, reader, degree)[kind]
            for go in range(3):
                poly = some_poly(source, boxes, degree)
                seen.add((self.look(wood, reader, kind, poly), poly.degree()))
                # a sum of sayings, then one with a term more
                numbers = [some_number(source) for poly in own]
                total = sum_of(own, numbers, boxes)
                self.assertEqual(self.look(wood, reader, kind, total), "always")
                if total.degree() == degree:
                    self.assertEqual(answered(wood, reader, kind, total), ("always", tuple(numbers)))
                seen.add(("always", total.degree()))
                more = total.plus(some_poly(source, boxes, degree, most=1))
                self.look(wood, reader, kind, more)
        self.assertEqual(seen, {(word, degree) for word in ("always", "tree") for degree in range(5)})

    def test_broken_late(self):
        # nought at all chains of fewer steps: a product of differences
        one = Poly(1, [((1,), (1, 1))])
        reader = read_reader(CHAINS, "reader 1\nz 0 = none\ns 0 = 1 + 1 0.0")
        product = Poly(1, [((0,), (3, 7))])
        for steps in range(5):
            self.assertEqual(answered(CHAINS, reader, 0, product), ("tree", chain(steps)))
            product = product.by(one.plus(Poly(1, [((0,), (-steps, 1))])))

    def test_told_readers_and_told_sayings(self):
        raised = raised_to(CHAINS, SQUARES, 2)
        for own in sayings_of(CHAINS, raised):
            for at, poly in enumerate(own):
                expected = tuple([(1, 1) if place == at else (0, 1) for place in range(len(own))])
                self.assertEqual(answered(CHAINS, raised, 0, poly), ("always", expected))
        self.assertEqual(len(sayings_of(CHAINS, raised)[0]), 1)

    def test_great_fractions(self):
        great = (10 ** 29 + 1, 10 ** 30 - 1)
        poly = read_poly("-1 x1 + 1 x0^2", 2).scaled(great)
        self.assertEqual(answered(CHAINS, SQUARES, 0, poly), ("always", (pair(Fraction(*great)),)))
        self.assertEqual(answered(CHAINS, SQUARES, 0, poly.plus(Poly(2, [((4, 0), pair(Fraction(*great)))]))),
                         ("tree", chain(1)))

    def test_nothing_is_changed_and_the_same_is_told(self):
        polys = [read_poly(text, 2) for text in ("-1 x1 + 1 x0^2", "1 x0", "0", "2 x0 + -3 x0^2 + 1 x0^3")]
        ahead = [repr(poly) for poly in polys]
        first = [answered(CHAINS, SQUARES, 0, poly) for poly in polys]
        answered(WOOD, READER, 1, Poly(1))
        answered(CHAINS, CHAIN_READER, 0, polys[0])
        self.assertEqual([answered(CHAINS, SQUARES, 0, poly) for poly in reversed(polys)], first[::-1])
        self.assertEqual([repr(poly) for poly in polys], ahead)


if __name__ == "__main__":
    unittest.main()
