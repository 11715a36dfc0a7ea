"""[3] [20] Sayings: nought at every tree, stepped, and all that there are."""

import math
import unittest
from fractions import Fraction

from boughkept.grown import grown_trees
from boughkept.polys import Poly, exponents_to
from boughkept.raised import raised_to, rooms_of
from boughkept.readertexts import read_reader
from boughkept.sayings import sayings_of
from helpers import (
    BARREN, CHAIN_READER, CHAINS, READER, WOOD, all_trees, chance, great_tree, rank_of, read_whole, room_row,
    some_reader, some_within, worth_at,
)

PAIRS = (("p", (("a", ()), ("g", ("p",)), ("f", ("p", "p")))),)
FORKS = (("p", (("a", ()), ("f", ("p", "p")))),)


def place(exponents):
    return (sum(exponents), [-number for number in exponents])


def texts(told):
    return [[str(poly) for poly in own] for own in told]


def text_reader(wood, *rows):
    return read_reader(wood, "\n".join(rows))


class TestSayings(unittest.TestCase):
    def stepped(self, own, boxes, degree):
        """Looks whether a row of sayings is stepped."""
        self.assertIs(type(own), tuple)
        lasts = [poly.terms()[-1][0] for poly in own]
        self.assertEqual([place(last) for last in lasts], sorted([place(last) for last in lasts]))
        self.assertEqual(len(set(lasts)), len(lasts))
        for at, poly in enumerate(own):
            self.assertIs(type(poly), Poly)
            self.assertEqual(poly.boxes, boxes)
            self.assertLessEqual(poly.degree(), degree)
            self.assertGreater(poly.terms()[-1][1][0], 0)
            self.assertEqual({lower for exponents, (upper, lower) in poly.terms()}, {1})
            self.assertEqual(math.gcd(*[upper for exponents, (upper, lower) in poly.terms()]), 1)
            for exponents, number in poly.terms():
                self.assertNotIn(exponents, lasts[:at] + lasts[at + 1:])

    def look(self, wood, reader, degree, told, cap=120):
        """Holds told sayings against the point's words: at many trees, and by how many there are."""
        source = chance(8)
        rooms = rooms_of(reader, degree)
        trees = grown_trees(wood, reader, degree)
        self.assertEqual((type(told), len(told)), (tuple, len(wood)))
        high, small = all_trees(wood, reader, cap)
        for kind, own in enumerate(told):
            self.stepped(own, reader[0][kind], degree)
            self.assertEqual(len(own) + len(trees[kind]), rooms[kind])
            boxes = [numbers for level, nested, numbers in small[kind]]
            boxes += [read_whole(wood, reader, tree) for tree in trees[kind]]
            for turn in range(4):
                tree = great_tree(source, wood, kind, rows=20, most=80)
                boxes += [] if tree is None else [read_whole(wood, reader, tree)]
            for poly in own:
                self.assertEqual({worth_at(poly, numbers) for numbers in boxes} - {0}, set(), str(poly))
            # so many rows are free that no other saying is left
            self.assertEqual(rank_of([room_row(numbers, degree) for numbers in boxes]), rooms[kind] - len(own))

    def test_forks(self):
        # how many leaves, how many forks, how many names
        reader = text_reader(FORKS, "reader 3", "a 0 = 1", "a 1 = none", "a 2 = 1",
                             "f 0 = 1 0.0 + 1 1.0", "f 1 = 1 + 1 0.1 + 1 1.1", "f 2 = 1 + 1 0.2 + 1 1.2")
        self.assertEqual(texts(sayings_of(FORKS, reader)), [["1 + -1 x0 + 1 x1", "1 + -2 x0 + 1 x2"]])
        self.assertEqual(sayings_of(FORKS, reader, 1), sayings_of(FORKS, reader))
        self.assertEqual(sayings_of(degree=1, wood=FORKS, reader=reader), sayings_of(FORKS, reader))
        self.look(FORKS, reader, 2, sayings_of(FORKS, reader, 2))
        # at trees so great that no one goes through them
        doubled = (("a", ()),) + tuple([("f", (at, at)) for at in range(59)])
        numbers = read_whole(FORKS, reader, doubled)
        self.assertEqual(numbers[0], 2 ** 59)
        for poly in sayings_of(FORKS, reader, 2)[0]:
            self.assertEqual(worth_at(poly, numbers), 0)

    def test_squares(self):
        reader = text_reader(CHAINS, "reader 2", "z 0 = none", "z 1 = none", "s 0 = 1 + 1 0.0", "s 1 = 1 + 2 0.0 + 1 0.1")
        self.assertEqual(texts(sayings_of(CHAINS, reader)), [[]])
        self.assertEqual(texts(sayings_of(CHAINS, reader, 2)), [["-1 x1 + 1 x0^2"]])
        self.assertEqual(texts(sayings_of(CHAINS, reader, 3)),
                         [["-1 x1 + 1 x0^2", "-1 x0 x1 + 1 x0^3", "-1 x1^2 + 1 x0^2 x1"]])

    def test_by_two_neighbours(self):
        # numbers each the sum of the two ahead, and a sign that turns
        reader = text_reader(CHAINS, "reader 3", "z 0 = none", "z 1 = 1", "z 2 = 1",
                             "s 0 = 1 0.1", "s 1 = 1 0.0 + 1 0.1", "s 2 = -1 0.2")
        self.assertEqual(texts(sayings_of(CHAINS, reader)), [[]])
        self.assertEqual(texts(sayings_of(CHAINS, reader, 2)), [["-1 x2 + -1 x0^2 + -1 x0 x1 + 1 x1^2", "-1 + 1 x2^2"]])

    def test_whole_numbers_without_a_common_divisor(self):
        reader = text_reader(CHAINS, "reader 2", "z 0 = 1/2", "z 1 = 5/7", "s 0 = 2/3 + 1 0.0", "s 1 = -9/14 + 1 0.1")
        # x1 = 5/7 - 27/28 (x0 - 1/2)
        self.assertEqual(texts(sayings_of(CHAINS, reader)), [["-67 + 54 x0 + 56 x1"]])
        ever = text_reader(CHAINS, "reader 1", "z 0 = -2/3", "s 0 = 1 0.0")
        self.assertEqual(texts(sayings_of(CHAINS, ever)), [["2 + 3 x0"]])
        self.assertEqual(texts(sayings_of(CHAINS, ever, 2)), [["2 + 3 x0", "-4 + 9 x0^2"]])
        nought = text_reader(CHAINS, "reader 2", "z 0 = none", "z 1 = 1", "s 0 = none", "s 1 = 5 0.1")
        self.assertEqual(texts(sayings_of(CHAINS, nought, 2)), [["1 x0", "1 x0^2", "1 x0 x1"]])

    def test_kinds_without_trees(self):
        reader = text_reader(
            BARREN, "reader 1 0 2 2", "a 0 = 1", "g 0 = 2 0.0", "f 0 = 1 0.0 + 1 1.0",
            "d 0 = 1", "d 1 = 1 0.1", "e 0 = 3", "e 1 = 1 0.0 1.0",
        )
        all_products = ["1", "1 x0", "1 x1"]
        self.assertEqual(texts(sayings_of(BARREN, reader)), [[], [], all_products, all_products])
        hollow = (("p", ()), ("q", (("f", ("q",)),)))
        told = sayings_of(hollow, text_reader(hollow, "reader 2 1", "f 0 = 1 0.0"), 2)
        self.assertEqual(texts(told), [["1", "1 x0", "1 x1", "1 x0^2", "1 x0 x1", "1 x1^2"], ["1", "1 x0", "1 x0^2"]])
        for own, boxes in zip(told, (2, 1)):
            self.assertEqual([poly.terms() for poly in own], [[(row, (1, 1))] for row in exponents_to(boxes, 2)])
        self.assertEqual(texts(sayings_of((("p", ()),), ((0,), ()), 4)), [["1"]])

    def test_kinds_without_boxes(self):
        for degree in range(1, 5):
            self.assertEqual(sayings_of(PAIRS, ((0,), ((), (), ())), degree), ((),))

    def test_parts_of_unlike_kinds(self):
        self.look(WOOD, READER, 1, sayings_of(WOOD, READER))

    def test_some_of_each(self):
        source = chance(161)
        many = set()
        for turn in range(160):
            degree = 1 + turn % 4
            wood, reader = some_within(source, degree)
            told = sayings_of(wood, reader, degree)
            self.look(wood, reader, degree, told)
            many.update([len(own) for own in told])
        self.assertTrue(set(range(6)) <= many, many)

    def test_boxes_that_others_tell(self):
        # a raised reader's boxes are powers of its first one
        source = chance(162)
        for turn in range(12):
            first = some_reader(source, CHAINS, (1,), most=3)
            raised = raised_to(CHAINS, first, 3)
            self.look(CHAINS, raised, 1, sayings_of(CHAINS, raised))
            if len(sayings_of(CHAINS, first, 3)[0]) == 0:
                self.assertEqual(str(sayings_of(CHAINS, raised, 2)[0][0]), "-1 x1 + 1 x0^2")

    def test_great_numbers(self):
        source = chance(163)
        number = lambda source: source.choice(((3000, 1), (-2999, 200), (1, 199), (2999, 7), (-3000, 191)))
        for counts, degree in (((4,), 1), ((3,), 2), ((2,), 3), ((1,), 4)):
            reader = some_reader(source, FORKS, counts, most=2, number=number)
            self.look(FORKS, reader, degree, sayings_of(FORKS, reader, degree), cap=30)

    def test_each_saying_in_just_one_way(self):
        # other rows of as many sayings come to the same stepped row
        source = chance(164)
        reader = text_reader(FORKS, "reader 3", "a 0 = 1", "a 1 = none", "a 2 = 1",
                             "f 0 = 1 0.0 + 1 1.0", "f 1 = 1 + 1 0.1 + 1 1.1", "f 2 = 1 + 1 0.2 + 1 1.2")
        own = sayings_of(FORKS, reader, 2)[0]
        for turn in range(20):
            numbers = [Fraction(source.randrange(-3, 4), source.randrange(1, 3)) for poly in own]
            total = Poly(3)
            for number, poly in zip(numbers, own):
                total = total.plus(poly.scaled((number.numerator, number.denominator)))
            found = dict(total.terms())
            for number, poly in zip(numbers, own):
                last, (upper, lower) = poly.terms()[-1]
                self.assertEqual(Fraction(*found.get(last, (0, 1))), number * upper)

    def test_told_again(self):
        first = sayings_of(CHAINS, CHAIN_READER, 3)
        sayings_of(WOOD, READER)
        grown_trees(CHAINS, CHAIN_READER)
        self.assertEqual(sayings_of(CHAINS, CHAIN_READER, 3), first)
        self.assertEqual(texts(first), texts(sayings_of(CHAINS, CHAIN_READER, 3)))


if __name__ == "__main__":
    unittest.main()
