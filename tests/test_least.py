"""[3] [24] The least reader: no boxes to spare, and tables by which each box of the first is told at every tree."""

import unittest
from fractions import Fraction

from boughkept.least import least_reader
from boughkept.polys import Poly
from boughkept.polytexts import read_poly
from boughkept.raised import raised_to
from boughkept.readers import look_reader
from boughkept.readertexts import read_reader, show_reader
from boughkept.sayings import sayings_of
from helpers import (
    BARREN, CHAIN_READER, CHAINS, READER, WOOD, all_trees, chain_reader, chance, great_tree, maker_rows, pair,
    rank_of, read_whole, some_number, some_reader, some_within, sums_there, worth_at,
)


def text_of(wood, told):
    """A told least reader's text, and its tables' texts."""
    reader, tables = told
    return show_reader(wood, reader), [[str(poly) for poly in own] for own in tables]


def has_trees(wood):
    """For each kind whether it has trees."""
    told = set()
    for turn in wood:
        told |= {kind for maker, kind, parts in maker_rows(wood) if set(parts) <= told}
    return [kind in told for kind in range(len(wood))]


def with_spare(source, wood, reader):
    """The reader with a box more in a kind: a sum of 1 and of boxes that are there; at times ahead of these."""
    counts, rules = reader
    kind = source.choice([at for at, count in enumerate(counts) if count])
    numbers = [Fraction(*some_number(source)) for box in range(counts[kind] + 1)]
    at = source.randrange(counts[kind] + 1)
    told = []
    for (maker, own, parts), sums in zip(maker_rows(wood), rules):
        moved = [tuple([
            (number, tuple([box + 1 if part == kind and box is not None and box >= at else box for part, box in zip(parts, boxes)]))
            for number, boxes in terms
        ]) for terms in sums]
        if own == kind:
            more = [(pair(numbers[0]), (None,) * len(parts))]
            for number, terms in zip(numbers[1:], moved):
                more += [(pair(number * Fraction(*its)), boxes) for its, boxes in terms]
            moved.insert(at, tuple(more))
        told.append(tuple(moved))
    return (tuple([count + (own == kind) for own, count in enumerate(counts)]), tuple(told))


class TestLeastReader(unittest.TestCase):
    def look(self, wood, reader, cap=150, source=None):
        """Holds a told least reader against the point's words; tells it."""
        least, tables = told = least_reader(wood, reader)
        self.assertEqual((type(told), type(least), type(tables)), (tuple, tuple, tuple))
        living = has_trees(wood)
        self.assertEqual([type(own) for own in tables], [tuple] * len(wood))
        self.assertEqual([len(own) for own in tables], list(reader[0]))
        for count, own in zip(least[0], tables):
            self.assertEqual({(type(poly), poly.boxes, poly.degree() < 2) for poly in own} - {(Poly, count, True)}, set())
        self.assert_form(wood, least, living)
        rows = sayings_of(wood, least)
        for kind, lives in enumerate(living):
            if lives:
                self.assertEqual(rows[kind], ())
            else:
                self.assertEqual((least[0][kind], tables[kind]), (0, (Poly(0),) * reader[0][kind]))
        self.assert_told(wood, reader, told, cap, source)
        return told

    def assert_form(self, wood, least, living):
        """Terms put together and in order, of makers of no tree none."""
        for (maker, kind, parts), sums in zip(maker_rows(wood), least[1], strict=True):
            self.assertEqual(len(sums), least[0][kind])
            for terms in sums:
                self.assertEqual(type(terms), tuple)
                boxes = [tuple([-1 if box is None else box for box in own]) for number, own in terms]
                self.assertEqual(boxes, sorted(set(boxes)))
                self.assertNotIn((0, 1), [number for number, own in terms])
                self.assertEqual([pair(Fraction(*number)) for number, own in terms], [number for number, own in terms])
                if not all([living[part] for part in parts]):
                    self.assertEqual(terms, ())

    def assert_told(self, wood, reader, told, cap, source):
        """Each box of the first told at trees, those of the least one the first's that are no sum of others ahead."""
        least, tables = told
        done, trees = all_trees(wood, reader, cap)
        for kind, own in enumerate(trees):
            more = [great_tree(source, wood, kind, rows=20, most=100) for turn in range(2)] if source else []
            pairs = [(boxes, self.nested_boxes(wood, least, nested)) for height, nested, boxes in own]
            pairs += [(read_whole(wood, reader, tree), read_whole(wood, least, tree)) for tree in more if tree]
            for boxes, its in pairs:
                self.assertEqual(tuple([worth_at(poly, its) for poly in tables[kind]]), boxes)
            # a box that is kept is a Poly of one term: the boxes in order
            kept = [at for at, poly in enumerate(tables[kind]) if self.is_box(poly)]
            firsts = []
            for at in kept:
                if len(firsts) < least[0][kind] and str(tables[kind][at]) == f"1 x{len(firsts)}":
                    firsts.append(at)
            self.assertEqual(len(firsts), least[0][kind])
            if own and done > 11:
                columns = [[Fraction(1)] * len(own)] + [[boxes[at] for height, nested, boxes in own] for at in range(reader[0][kind])]
                free = [at for at in range(reader[0][kind]) if rank_of(columns[:at + 2]) > rank_of(columns[:at + 1])]
                self.assertEqual(firsts, free)

    def is_box(self, poly):
        return len(poly) == 1 and poly.degree() == 1 and poly.terms()[0][1] == (1, 1)

    def nested_boxes(self, wood, reader, nested):
        rules = dict(zip([maker for maker, kind, parts in maker_rows(wood)], reader[1]))

        def go(tree):
            return sums_there(rules[tree[0]], [go(part) for part in tree[1]])

        return go(nested)

    def test_told_ones(self):
        # steps, twice these and one more, a constant, the square of the steps
        reader = chain_reader("none", "1", "5/3", "none", "1 + 1 0.0", "2 + 1 0.1", "1 0.2", "1 0.3 + 1 0.1")
        self.assertEqual(text_of(CHAINS, self.look(CHAINS, reader)), (
            "reader 2\nz 0 = none\nz 1 = none\ns 0 = 1 + 1 0.0\ns 1 = 1 + 2 0.0 + 1 0.1",
            [["1 x0", "1 + 2 x0", "5/3", "1 x1"]],
        ))
        # in another order the other one is kept
        turned = chain_reader("1", "none", "2 + 1 0.0", "1 + 1 0.1")
        self.assertEqual(text_of(CHAINS, self.look(CHAINS, turned)), ("reader 1\nz 0 = 1\ns 0 = 2 + 1 0.0", [["1 x0", "-1/2 + 1/2 x0"]]))

    def test_no_boxes_to_spare(self):
        self.assertEqual(self.look(CHAINS, CHAIN_READER)[0], ((2,), (
            ((), (((1, 1), ()),)), ((((1, 1), (None,)), ((1, 1), (0,))), (((2, 3), (1,)),)),
        )))
        self.assertEqual(text_of(CHAINS, self.look(CHAINS, CHAIN_READER))[1], [["1 x0", "1 x1"]])

    def test_no_boxes_left(self):
        self.assertEqual(self.look(CHAINS, ((0,), ((), ()))), (((0,), ((), ())), ((),)))
        ever = chain_reader("7/2", "none", "1 0.0", "2 0.1")
        self.assertEqual(self.look(CHAINS, ever), (((0,), ((), ())), ((read_poly("7/2", 0), Poly(0)),)))
        self.assertEqual(self.look((("p", ()),), ((3,), ())), (((0,), ()), ((Poly(0),) * 3,)))

    def test_terms_put_together_and_in_order(self):
        reader = chain_reader("1", "1", "1 0.1 + 1 0.0 + -3 + 3 + 1 0.0 + 0 0.1", "2 0.1 + 1/2 0.0 + 1/2 0.0")
        self.assertEqual(text_of(CHAINS, self.look(CHAINS, reader)), ("reader 1\nz 0 = 1\ns 0 = 3 0.0", [["1 x0", "1 x0"]]))
        wood = (("p", (("a", ()), ("b", ()), ("f", ("p", "p")))),)
        # the second box is one more than the first: products of both parts come apart
        pairs = read_reader(wood, "\n".join([
            "reader 2", "a 0 = 2", "a 1 = 3", "b 0 = 5", "b 1 = 6", "f 0 = 1 0.1 1.1", "f 1 = 1 0.1 1.1 + 1",
        ]))
        self.assertEqual(text_of(wood, self.look(wood, pairs)), (
            "reader 1\na 0 = 2\nb 0 = 5\nf 0 = 1 + 1 1.0 + 1 0.0 + 1 0.0 1.0", [["1 x0", "1 + 1 x0"]],
        ))
        gone = read_reader(wood, "\n".join([
            "reader 2", "a 0 = 2", "a 1 = 3", "b 0 = 5", "b 1 = 6", "f 0 = 1 0.1 1.0 + -1 0.0 1.0 + -1 1.0", "f 1 = 1",
        ]))
        self.assertEqual(text_of(wood, self.look(wood, gone))[0], "reader 1\na 0 = 2\nb 0 = 5\nf 0 = none")

    def test_kinds_without_trees(self):
        reader = read_reader(BARREN, "\n".join([
            "reader 1 2 2 1", "a 0 = 1", "g 0 = 2 0.0", "f 0 = 1 0.0 + 1 1.0", "b 0 = 1 0.0", "b 1 = 1 + 3 0.0",
            "h 0 = 1 0.0 + 1 1.0", "h 1 = 1 0.1 + 3 1.0", "d 0 = 5", "e 0 = 1 0.1 1.0 + 2",
        ]))
        self.assertEqual(text_of(BARREN, self.look(BARREN, reader)), (
            "\n".join([
                "reader 1 1 0 0", "a 0 = 1", "g 0 = 2 0.0", "f 0 = 1 1.0 + 1 0.0", "b 0 = 1 0.0", "h 0 = 1 1.0 + 1 0.0",
            ]),
            [["1 x0"], ["1 x0", "1 + 3 x0"], ["0", "0"], ["0"]],
        ))

    def test_makers_with_a_part_of_a_kind_without_trees(self):
        # lift makes no tree, whatever its sums tell; the kind has trees by another maker
        self.assertEqual(READER[1][8], ((((5, 1), (None,)),), (), ()))
        wood = (("p", (("a", ()), ("b", ()), ("u", ("void", "p")), ("v", ("p", "void")), ("w", ("void",)))), ("void", ()))
        reader = read_reader(wood, "\n".join([
            "reader 1 1", "a 0 = 1", "b 0 = 2", "u 0 = 3 + 1 1.0 + 2 0.0", "v 0 = 1 + 1 0.0 + 5 0.0 1.0", "w 0 = 7",
        ]))
        self.assertEqual(text_of(wood, self.look(wood, reader)), (
            "reader 1 0\na 0 = 1\nb 0 = 2\nu 0 = none\nv 0 = none\nw 0 = none", [["1 x0"], ["0"]],
        ))

    def test_some_readers(self):
        source = chance(251)
        spared = 0
        for turn in range(240):
            wood, reader = some_within(source, 1)
            least, tables = self.look(wood, reader, 100, source if turn % 3 == 0 else None)
            spared += sum(reader[0]) - sum(least[0])
        self.assertGreater(spared, 200)

    def test_boxes_that_were_put_in(self):
        source = chance(252)
        for turn in range(120):
            wood, reader = some_within(source, 1, rooms=10)
            spare = with_spare(source, wood, reader)
            if max(spare[0]) <= 4:
                self.assertIs(look_reader(wood, spare), True)
            least, tables = self.look(wood, spare, 100)
            self.assertEqual(least[0], least_reader(wood, reader)[0][0])

    def test_the_least_of_the_least(self):
        source = chance(253)
        for turn in range(60):
            wood, reader = some_within(source, 1)
            least, tables = least_reader(wood, reader)
            again, more = least_reader(wood, least)
            self.assertEqual(again, least)
            self.assertEqual([[str(poly) for poly in own] for own in more], [[f"1 x{at}" for at in range(count)] for count in least[0]])

    def test_told_readers(self):
        raised = raised_to(CHAINS, chain_reader("none", "none", "1 + 1 0.0", "1 + 2 0.0 + 1 0.1"))
        self.assertEqual(text_of(CHAINS, self.look(CHAINS, raised))[1], [["1 x0", "1 x1", "1 x1", "1 x2", "1 x3"]])

    def test_great_fractions(self):
        source = chance(254)

        def number(source):
            return pair(Fraction(source.randrange(-3000, 3001), source.randrange(1, 201)))

        wood = (("p", (("a", ()), ("b", ()), ("f", ("p", "p")))),)
        for turn in range(5):
            self.look(wood, with_spare(source, wood, some_reader(source, wood, (3,), 3, number)), 30)

    def test_nothing_is_changed_and_the_same_is_told(self):
        ahead = repr((CHAIN_READER, READER, BARREN))
        first = least_reader(CHAINS, CHAIN_READER)
        whole = least_reader(WOOD, READER)
        self.assertEqual(least_reader(reader=CHAIN_READER, wood=CHAINS), first)
        self.assertEqual(least_reader(WOOD, READER), whole)
        self.assertEqual(repr((CHAIN_READER, READER, BARREN)), ahead)


if __name__ == "__main__":
    unittest.main()
