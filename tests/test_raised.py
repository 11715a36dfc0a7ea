"""[16] [17] [18] Polynomials put back through makers, readers raised, rooms counted."""

import math
import unittest
from fractions import Fraction

from boughkept.polys import exponents_to
from boughkept.polytexts import read_poly
from boughkept.raised import put_back, raised_to, rooms_of
from boughkept.readers import boxes_at, look_reader
from boughkept.readertexts import read_reader, show_reader
from helpers import (
    CHAIN_READER, CHAINS, READER, WOOD, chance, great_tree, maker_rows, pair, products_to, read_rows, some_poly,
    some_reader, some_trees, some_wood, sums_there, worth_at,
)

PAIRS = (("p", (("a", ()), ("g", ("p",)), ("f", ("p", "p")))),)
TWO = read_reader(PAIRS, "\n".join([
    "reader 2", "a 0 = 2", "a 1 = -1/3", "g 0 = 1 + 1 0.1", "g 1 = 2 0.0", "f 0 = 1 0.0 + 1 1.0", "f 1 = 1/2 0.0 1.1",
]))


def some_boxes(source, count):
    return [Fraction(source.randrange(-9, 10), source.randrange(1, 5)) for box in range(count)]


def place(boxes):
    return [(box is not None, box or 0) for box in boxes]


class TestPutBack(unittest.TestCase):
    def put(self, maker, text, expected, boxes):
        told = put_back(PAIRS, TWO, maker, read_poly(text, 2))
        self.assertEqual((str(told), told.boxes), (expected, boxes))

    def test_written_out(self):
        self.put("a", "1 x0", "2", 0)
        self.put("a", "1 + 3 x0 x1 + 1 x1^2", "-8/9", 0)
        self.put("a", "1 x0 + 6 x1", "0", 0)
        self.put("g", "1 x0", "1 + 1 x1", 2)
        self.put("g", "1 x0^2", "1 + 2 x1 + 1 x1^2", 2)
        self.put("g", "5 x1 + -1 x0 x1", "8 x0 + -2 x0 x1", 2)
        self.put("f", "1 x0", "1 x0 + 1 x2", 4)
        self.put("f", "1 x1", "1/2 x0 x3", 4)
        self.put("f", "4 x1 + 1 x0^2", "1 x0^2 + 2 x0 x2 + 2 x0 x3 + 1 x2^2", 4)
        self.put("f", "7", "7", 4)
        self.put("f", "0", "0", 4)
        told = put_back(poly=read_poly("1 x0", 2), maker="g", reader=TWO, wood=PAIRS)
        self.assertEqual(str(told), "1 + 1 x1")

    def test_the_first_parts_boxes_first(self):
        # part 0 of the kind list (one box), part 1 of num (two)
        told = put_back(WOOD, READER, "part", read_poly("1 x0 + 1 x1 + 1 x2", 3))
        self.assertEqual(str(told), "7/2 + 1 x0 + 3 x1 + 1 x2 + 1 x0 x1")
        self.assertEqual(told.boxes, 3)
        self.assertEqual(str(put_back(WOOD, READER, "list", read_poly("1 x0^2", 1))), "1 x0^2 + 2 x0 x2 + 1 x2^2")
        told = put_back(WOOD, READER, "lift", read_poly("1 + 1 x0 + 1 x1 x2", 3))
        self.assertEqual((str(told), told.boxes), ("6", 0))

    def test_kinds_without_boxes(self):
        reader = read_reader(WOOD, "reader 0 1 0 0\nnil 0 = 5\nlist 0 = 2 1.0\nrest 0 = none")
        for maker, boxes in (("zero", 0), ("neg", 0), ("add", 0), ("sum", 1), ("lift", 0), ("part", 1)):
            for text in ("0", "-2/3"):
                told = put_back(WOOD, reader, maker, read_poly(text, 0))
                self.assertEqual((str(told), told.boxes), (text, boxes))
        self.assertEqual(str(put_back(WOOD, reader, "list", read_poly("1 + 1 x0^3", 1))), "1 + 8 x0^3")

    def test_worths(self):
        source = chance(141)
        for turn in range(150):
            wood = some_wood(source)
            counts = [source.randrange(4) for kind in wood]
            reader = some_reader(source, wood, counts, most=4)
            for (maker, kind, parts), sums in zip(maker_rows(wood), reader[1]):
                poly = some_poly(source, counts[kind])
                ahead = repr(poly)
                told = put_back(wood, reader, maker, poly)
                self.assertEqual(told.boxes, sum([counts[part] for part in parts]))
                self.assertEqual(repr(poly), ahead)
                for go in range(3):
                    boxes = [some_boxes(source, counts[part]) for part in parts]
                    numbers = [number for part in boxes for number in part]
                    self.assertEqual(worth_at(told, numbers), worth_at(poly, sums_there(sums, boxes)))
                    self.assertEqual(told.worth(tuple([pair(number) for number in numbers])),
                                     pair(worth_at(poly, sums_there(sums, boxes))))


class TestRaised(unittest.TestCase):
    def test_written_out(self):
        self.assertEqual(show_reader(PAIRS, raised_to(PAIRS, TWO)), "\n".join([
            "reader 5",
            "a 0 = 2", "a 1 = -1/3", "a 2 = 4", "a 3 = -2/3", "a 4 = 1/9",
            "g 0 = 1 + 1 0.1", "g 1 = 2 0.0", "g 2 = 1 + 2 0.1 + 1 0.4", "g 3 = 2 0.0 + 2 0.3", "g 4 = 4 0.2",
            "f 0 = 1 1.0 + 1 0.0", "f 1 = 1/2 0.0 1.1", "f 2 = 1 1.2 + 2 0.0 1.0 + 1 0.2",
            "f 3 = 1/2 0.0 1.3 + 1/2 0.2 1.1", "f 4 = 1/4 0.2 1.4",
        ]))
        self.assertEqual(raised_to(PAIRS, TWO, 2), raised_to(PAIRS, TWO))
        self.assertEqual(raised_to(degree=2, reader=TWO, wood=PAIRS), raised_to(PAIRS, TWO))

    def test_to_one(self):
        text = "reader 1\nz 0 = 2 + 0 + -2\ns 0 = 1 0.0 + 3 + 1/2 0.0 + 0 0.0 + -1"
        self.assertEqual(show_reader(CHAINS, raised_to(CHAINS, read_reader(CHAINS, text), 1)),
                         "reader 1\nz 0 = none\ns 0 = 2 + 3/2 0.0")
        wood = (("p", (("f", ("p", "p")),)),)
        text = "reader 2\nf 0 = 1 0.1 1.1 + 2 0.1 + 3 0.0 1.1 + 4 1.1 + 5 1.0 + 6 0.0 1.0 + 7 + 8 0.1 1.0\nf 1 = none"
        self.assertEqual(
            show_reader(wood, raised_to(wood, read_reader(wood, text), 1)),
            "reader 2\nf 0 = 7 + 5 1.0 + 4 1.1 + 6 0.0 1.0 + 3 0.0 1.1 + 2 0.1 + 8 0.1 1.0 + 1 0.1 1.1\nf 1 = none",
        )

    def test_noughts_that_come_of_multiplying(self):
        # (1 - x)(1 + x): the terms in the midst go away
        reader = read_reader(CHAINS, "reader 2\nz 0 = 1\nz 1 = 3\ns 0 = 1 + -1 0.0\ns 1 = 1 + 1 0.0")
        self.assertIn("\ns 3 = 1 + -1 0.2\n", show_reader(CHAINS, raised_to(CHAINS, reader)))

    def test_kinds_without_boxes(self):
        reader = read_reader(WOOD, "reader 0 1 0 0\nnil 0 = 5\nlist 0 = 2 1.0\nrest 0 = none")
        self.assertEqual(
            show_reader(WOOD, raised_to(WOOD, reader, 3)),
            "reader 0 3 0 0\nnil 0 = 5\nnil 1 = 25\nnil 2 = 125\nlist 0 = 2 1.0\nlist 1 = 4 1.1\nlist 2 = 8 1.2\n"
            "rest 0 = none\nrest 1 = none\nrest 2 = none",
        )
        bare = (("p", ()), ("q", ()))
        self.assertEqual(raised_to(bare, ((2, 0), ()), 4), ((14, 0), ()))

    def look(self, wood, reader, degree, told, trees):
        """Holds a raised reader against the point's words."""
        counts, rules = told
        self.assertEqual(counts, tuple([many - 1 for many in rooms_of(reader, degree)]))
        self.assertEqual(len(rules), len(reader[1]))
        for (maker, kind, parts), sums in zip(maker_rows(wood), rules):
            self.assertEqual(len(sums), counts[kind])
            for terms in sums:
                self.assertTrue(all([upper != 0 for (upper, lower), boxes in terms]))
                places = [place(boxes) for number, boxes in terms]
                self.assertEqual(places, sorted(places))
                self.assertEqual(len(places), len({boxes for number, boxes in terms}))
                for number, boxes in terms:
                    self.assertEqual(pair(Fraction(*number)), number)
                    self.assertEqual(len(boxes), len(parts))
                    for box, part in zip(boxes, parts):
                        self.assertIn(box, [None, *range(counts[part])])
        for tree in trees:
            for first, raised in zip(read_rows(wood, reader, tree), read_rows(wood, told, tree)):
                self.assertEqual(list(raised), products_to(first, degree))

    def test_products_at_trees(self):
        source = chance(142)
        for turn in range(80):
            wood = some_wood(source)
            degree = source.randrange(1, 5)
            most = (4, 3, 2, 2)[degree - 1]
            reader = some_reader(source, wood, [source.randrange(most + 1) for kind in wood], most=4)
            told = raised_to(wood, reader, degree)
            trees = [great_tree(source, wood, rows=8, most=60) for go in range(3)]
            self.look(wood, reader, degree, told, trees)
            if max(told[0]) <= 4:
                self.assertIs(look_reader(wood, told), True)

    def test_nothing_else_put_in(self):
        # the sums of the first, multiplied out, are told by numbers put for the parts' boxes
        source = chance(143)
        for turn in range(60):
            wood = some_wood(source)
            degree = source.randrange(1, 4)
            counts = [source.randrange(3) for kind in wood]
            reader = some_reader(source, wood, counts, most=3)
            for (maker, kind, parts), sums, own in zip(maker_rows(wood), raised_to(wood, reader, degree)[1], reader[1]):
                boxes = [some_boxes(source, counts[part]) for part in parts]
                raised = [products_to(part, degree) for part in boxes]
                self.assertEqual(list(sums_there(sums, raised)), products_to(sums_there(own, boxes), degree))

    def test_told_readers_once_more(self):
        source = chance(144)
        for counts, degrees in (((2,), (2, 2)), ((1,), (4, 2)), ((1,), (2, 4)), ((2,), (1, 3)), ((3,), (2, 2))):
            first = some_reader(source, PAIRS, counts, most=3)
            once = raised_to(PAIRS, first, degrees[0])
            told = raised_to(PAIRS, once, degrees[1])
            self.look(PAIRS, once, degrees[1], told, [great_tree(source, PAIRS, rows=6, most=30) for go in range(3)])
        self.assertEqual(raised_to(PAIRS, raised_to(PAIRS, TWO, 2), 1), raised_to(PAIRS, TWO, 2))

    def test_great_trees(self):
        told = raised_to(WOOD, READER)
        source = chance(145)
        for turn in range(5):
            tree = great_tree(source, WOOD, rows=30, most=2000)
            boxes = [Fraction(*number) for number in boxes_at(WOOD, READER, tree)]
            self.assertEqual([Fraction(*number) for number in boxes_at(WOOD, told, tree)], products_to(boxes, 2))

    def test_told_again(self):
        first = raised_to(WOOD, READER)
        poly = read_poly("4 x1 + 1 x0^2", 2)
        back = put_back(PAIRS, TWO, "f", poly)
        raised_to(CHAINS, CHAIN_READER, 3)
        put_back(PAIRS, TWO, "g", poly)
        self.assertEqual(raised_to(WOOD, READER), first)
        self.assertEqual(put_back(PAIRS, TWO, "f", poly), back)
        trees = [rows for nested, rows in some_trees(146, 20)]
        self.look(WOOD, READER, 2, first, trees)


class TestRooms(unittest.TestCase):
    def test_counted(self):
        for boxes in range(6):
            for degree in range(1, 5):
                self.assertEqual(rooms_of(((boxes,), ()), degree), [math.comb(boxes + degree, degree)])
                self.assertEqual(rooms_of(((boxes,), ()), degree), [len(exponents_to(boxes, degree))])
        self.assertEqual(rooms_of(READER), [3, 2, 1, 4])
        self.assertEqual(rooms_of(READER, 2), [6, 3, 1, 10])
        self.assertEqual(rooms_of(degree=4, reader=READER), [15, 5, 1, 35])
        self.assertEqual(rooms_of(reader=((0, 0), ())), [1, 1])

    def test_of_told_readers(self):
        self.assertEqual(rooms_of(raised_to(PAIRS, TWO, 4), 4), [math.comb(14 + 4, 4)])

    def test_a_new_list(self):
        told = rooms_of(READER)
        told.append(7)
        self.assertEqual(rooms_of(READER), [3, 2, 1, 4])


if __name__ == "__main__":
    unittest.main()
